/-
  Texts put together: Iq Ea Te TIns TInb TInc TDel.
-/
import Derived.Test.YtfhghijefjhehaaGreatDoorMIf
import Derived.Laws.MakeOwn
import Derived.Test.YtfhghijefjhehaaGreatDoorMHza
import Derived.Shelf.RegionOpenPlain
import Derived.Deep.RegionLaw
import Derived.Lib.Overlaps
import Derived.Laws.Externs
import Derived.Lib.AppendZerosOnto
/-! Iq -/
namespace Go.Proofs.YtfhghijefjhehaaGreatDoor
open Go.RowKit Go.Lib
set_option linter.unusedVariables false

/-- Cells stored one behind the other. -/
def setsL (w : World) (g o : Nat) : List Value → World
  | [] => w
  | v :: vs => setsL (w.setCell ⟨g, o, none⟩ v) g (o + 1) vs
theorem setsL_row {g : Nat} {e : TypeId} : ∀ (vs : List Value) (w : World) (o : Nat) (cur : List Value), w.heap[g]? = some (.cells cur.toArray e (0, 0)) → o + vs.length ≤ cur.length →
    (∃ cur' : List Value, (setsL w g o vs).heap[g]? = some (.cells cur'.toArray e (0, 0)) ∧ cur'.length = cur.length ∧ (∀ j, j < vs.length → cur'[o + j]? = vs[j]?) ∧ ∀ m, (m < o ∨ o + vs.length ≤ m) → cur'[m]? = cur[m]?) ∧ Fr (fun k => k = g) w (setsL w g o vs)
  | [], w, o, cur, h, _ => ⟨⟨cur, h, rfl, fun j hj => by simp at hj, fun m _ => rfl⟩, Fr.refl _ _⟩
  | v :: vs, w, o, cur, h, hl => by
    have h1 : (w.setCell ⟨g, o, none⟩ v).heap[g]? = some (.cells (cur.set o v).toArray e (0, 0)) := by
      rw [set_row h o v]
      simp
    simp only [List.length_cons] at hl
    obtain ⟨⟨cur', a1, a2, a3, a4⟩, a5⟩ := setsL_row vs (w.setCell ⟨g, o, none⟩ v) (o + 1) (cur.set o v) h1 (by rw [List.length_set]; omega)
    refine ⟨⟨cur', a1, by rw [a2, List.length_set], fun j hj => ?_, fun m hm => ?_⟩, (Fr.setCell (S := fun k => k = g) w ⟨g, o, none⟩ v rfl).trans a5⟩
    · cases j with
      | zero =>
        rw [Nat.add_zero, a4 o (.inl (by omega)), List.getElem?_set_self (by omega)]
        rfl
      | succ j =>
        have := a3 j (by simp at hj; omega)
        rw [show o + (j + 1) = o + 1 + j from by omega, this]
        rfl
    · simp only [List.length_cons] at hm
      rw [a4 m (by omega), List.getElem?_set_ne (by omega)]

/-- A row of n elements at block g, the first i of them those of xs. -/
def FillC {α : Type} (f : α → List Value) (k : Nat) (e : TypeId) (w3 wr : World) (g n : Nat) (xs : List α) (i : Nat) : Prop :=
  (∃ cur : List Value, wr.heap[g]? = some (.cells cur.toArray e (0, 0)) ∧ cur.length = n * k ∧ ∀ q (hq : q < xs.length), q < i → ∀ j, j < k → cur[q * k + j]? = (f xs[q])[j]?) ∧ Fr (fun k => k = g) w3 wr
section
variable {α : Type} {f : α → List Value} {k : Nat} {e : TypeId} {w3 wr : World} {g n : Nat} {xs : List α} {i : Nat}
theorem FillC.cells (h : FillC f k e w3 wr g n xs i) (hi : i < n) (j : Nat) (hj : j < k) : (∃ v, wr.cell? ⟨g, i * k + j, none⟩ = some v) ∧ wr.frozen? ⟨g, i * k + j, none⟩ = false := by
  obtain ⟨⟨cur, h1, h2, -⟩, -⟩ := h
  have : (i + 1) * k ≤ n * k := Nat.mul_le_mul_right _ (by omega)
  rw [Nat.add_mul] at this
  refine ⟨?_, frozen_row h1 _⟩
  rw [cell_row h1]
  exact ⟨cur[i * k + j]'(by omega), by simp⟩
theorem FillC.step (hz : Sz f k) (h : FillC f k e w3 wr g n xs i) (hi : i < n) (hx : i < xs.length) : FillC f k e w3 (setsL wr g (i * k) (f xs[i])) g n xs (i + 1) := by
  obtain ⟨⟨cur, h1, h2, h3⟩, h4⟩ := h
  have hlen : (i + 1) * k ≤ n * k := Nat.mul_le_mul_right _ (by omega)
  rw [Nat.add_mul, Nat.one_mul] at hlen
  have hfl := (hz xs[i]).1
  obtain ⟨⟨cur', a1, a2, a3, a4⟩, a5⟩ := setsL_row (f xs[i]) wr (i * k) cur h1 (by rw [hfl]; omega)
  refine ⟨⟨cur', a1, by rw [a2]; exact h2, fun q hq hqi j hj => ?_⟩, h4.trans a5⟩
  by_cases e : q = i
  · subst e
    exact a3 j (by rw [hfl]; exact hj)
  · have hq1 : (q + 1) * k ≤ i * k := Nat.mul_le_mul_right _ (by omega)
    rw [Nat.add_mul, Nat.one_mul] at hq1
    rw [a4 _ (.inl (by omega))]
    exact h3 q hq (by omega) j hj
theorem FillC.get (h : FillC f k e w3 wr g n xs i) (q j : Nat) (hq : q < xs.length) (hqi : q < i) (hj : j < k) : wr.cell? ⟨g, q * k + j, none⟩ = (f xs[q])[j]? := by
  obtain ⟨⟨cur, h1, h2, h3⟩, -⟩ := h
  rw [cell_row h1, ← h3 q hq hqi j hj]
  simp
theorem FillC.mono (h : FillC f k e w3 wr g n xs i) {u : World} {S : Nat → Prop} (hF : Fr S wr u) (hS : ¬ S g) (w3' : World) : FillC f k e u u g n xs i := by
  obtain ⟨⟨cur, h1, h2, h3⟩, -⟩ := h
  exact ⟨⟨cur, hF.keeps h1 hS, h2, h3⟩, Fr.refl _ _⟩
end

def elc (x : El) : List Value := [.int .u8 x.1, .int .i64 x.2.1, .int .i64 x.2.2]
theorem szEl : Sz elc 3 := fun x => ⟨rfl, fun v hv => by
  simp only [elc, List.mem_cons, List.not_mem_nil, or_false] at hv
  rcases hv with rfl | rfl | rfl <;> rfl⟩
def edc (x : Ed) : List Value := [.int .i64 x.tag, .int .i64 x.o.kind, .int .i64 x.o.pos, .int .u8 x.o.ch, .int .i64 x.o.cl, .int .i64 x.o.sq]
theorem szEd : Sz edc 6 := fun x => ⟨rfl, fun v hv => by
  simp only [edc, List.mem_cons, List.not_mem_nil, or_false] at hv
  rcases hv with rfl | rfl | rfl | rfl | rfl | rfl <;> rfl⟩

/-- A text in memory. -/
def IsT (w : World) (a : Option Addr) (xs : List El) : Prop := 0 < xs.length → ∃ b off, a = some ⟨b, off, none⟩ ∧ b < w.heap.size ∧ ∀ q (hq : q < xs.length), w.cell? ⟨b, off + q * 3, none⟩ = some (.int .u8 xs[q].1) ∧ w.cell? ⟨b, off + q * 3 + 1, none⟩ = some (.int .i64 xs[q].2.1) ∧ w.cell? ⟨b, off + q * 3 + 2, none⟩ = some (.int .i64 xs[q].2.2)


theorem Tryz.infoEl : (Tryz.prog.info? 42).map (fun i => (i.zero, i.size, i.bytes)) = some (some (.agg #[.int .u8 0, .int .i64 0, .int .i64 0]), 3, 24) := by kernel_rfl
theorem madeCells_len (z : Array Value) (m : Nat) (hz : 0 < z.size) : (madeCells z m).toList.length = m := by simp [madeCells]

set_option maxRecDepth 100000 in
set_option maxHeartbeats 4000000 in
theorem copiedDoc_any (a : Option Addr) (n c : Nat) (xs : List El) (w : World) (hl : xs.length = n) (hn : n ≤ 11728124029610) (hT : IsT w a xs) :
    Calls Tryz.prog 19 #[.slice a n c] w fun e w' => ∃ g, e = .returned (.slice (some ⟨g, 0, none⟩) n n) ∧ w.heap.size ≤ g ∧ (∀ q (hq : q < xs.length), w'.cell? ⟨g, q * 3, none⟩ = some (.int .u8 xs[q].1) ∧ w'.cell? ⟨g, q * 3 + 1, none⟩ = some (.int .i64 xs[q].2.1) ∧ w'.cell? ⟨g, q * 3 + 2, none⟩ = some (.int .i64 xs[q].2.2)) ∧ g < w'.heap.size ∧ Below w.heap.size w w' := by
  obtain ⟨i0, hi0, hz0, hz1, hz2⟩ : ∃ i0, Tryz.prog.info? 42 = some i0 ∧ i0.zero = some (.agg #[.int .u8 0, .int .i64 0, .int .i64 0]) ∧ i0.size = 3 ∧ i0.bytes = 24 := by
    cases hq : Tryz.prog.info? 42 with
    | none => have := Tryz.infoEl; rw [hq] at this; cases this
    | some i =>
      have h := Tryz.infoEl
      rw [hq] at h
      simp only [Option.map_some, Option.some.injEq, Prod.mk.injEq] at h
      exact ⟨i, rfl, h.1, h.2.1, h.2.2⟩
  have HT := hd hT
  have HL := hd hl
  clear hT
  go_enter Tryz.func19, Tryz.ntmps19
  go_wp2_with (at_make; refine wpList_make_k _ rfl _ _ 70 rfl 42 i0 _ Tryz.underlying70 hi0 hz0 _ _ _ _ n n rfl rfl rfl rfl (Nat.le_refl _) (by rw [hz2]; omega) (by omega) ?_; intro w3 cur hg3 hcur hb3)
  have S0 : Hid (FillC elc 3 42 w3 w3 w.heap.size n xs 0) := ⟨⟨cur, hg3.out, by have := hcur.out; rw [hz1] at this; rw [this, madeCells_len _ _ (by decide)], fun q hq h => by omega⟩, Fr.refl _ _⟩
  have B3 := hd hb3.out
  clear hg3 hcur hb3 hi0 hz0 hz1 hz2 hl
  go_wp2_with fail
  go_loopw [4] (fun i wr => ∃ k : Nat, k ≤ n ∧ i = .int .i64 k ∧ Hid (FillC elc 3 42 w3 wr w.heap.size n xs k)) (fun i _ => n - (intOf i).toNat)
  case atStart => exact ⟨0, Nat.zero_le _, rfl, S0⟩
  case round =>
    obtain ⟨k, hk, rfl, hr⟩ := hrel
    clear S0
    have BR := hd (B3.out.trans (hr.out.2.below B3.out.size (fun q hq => by omega)))
    by_cases hlt : k < n
    · have hx : k < xs.length := by have := HL.out; omega
      obtain ⟨b, off, rfl, hb, hc⟩ := HT.out (by omega)
      obtain ⟨c0, c1, c2⟩ := hc k hx
      have c0 := (BR.out.cell (p := ⟨b, off + k * 3, none⟩) hb).trans c0
      have c1 := (BR.out.cell (p := ⟨b, off + k * 3 + 1, none⟩) hb).trans c1
      have c2 := (BR.out.cell (p := ⟨b, off + k * 3 + 2, none⟩) hb).trans c2
      obtain ⟨⟨v0, d0⟩, f0⟩ := hr.out.cells hlt 0 (by omega)
      obtain ⟨⟨v1, d1⟩, f1⟩ := hr.out.cells hlt 1 (by omega)
      obtain ⟨⟨v2, d2⟩, f2⟩ := hr.out.cells hlt 2 (by omega)
      rw [Nat.add_zero] at d0 f0
      have i1 : (k : Int) < (n : Int) := by omega
      have ST : Hid (FillC elc 3 42 w3 (((wr.setCell ⟨w.heap.size, k * 3, none⟩ (.int .u8 xs[k].1)).setCell ⟨w.heap.size, k * 3 + 1, none⟩ (.int .i64 xs[k].2.1)).setCell ⟨w.heap.size, k * 3 + 2, none⟩ (.int .i64 xs[k].2.2)) w.heap.size n xs (k + 1)) := FillC.step szEl hr.out hlt hx
      have E3 : wrap64 ((k : Int) + 1) = ((k + 1 : Nat) : Int) := by rw [wrap64]; omega
      generalize xs[k] = y at *
      clear hr hc hx BR
      go_wp2
      first
        | exact ⟨⟨k + 1, by omega, by rw [E3], ST⟩, by rw [E3]; simp only [intOf, Int.toNat_natCast]; omega⟩
        | exact ⟨⟨k + 1, by omega, by go_num, ST⟩, by simp [intOf]; omega⟩
    · obtain rfl : k = n := by omega
      have R : Hid (∀ q (hq : q < xs.length), wr.cell? ⟨w.heap.size, q * 3, none⟩ = some (.int .u8 xs[q].1) ∧ wr.cell? ⟨w.heap.size, q * 3 + 1, none⟩ = some (.int .i64 xs[q].2.1) ∧ wr.cell? ⟨w.heap.size, q * 3 + 2, none⟩ = some (.int .i64 xs[q].2.2)) := fun q hq => by
        have hl := HL.out
        exact ⟨hr.out.get q 0 hq (by omega) (by omega), hr.out.get q 1 hq (by omega) (by omega), hr.out.get q 2 hq (by omega) (by omega)⟩
      have G : Hid (w.heap.size < wr.heap.size) := by
        obtain ⟨⟨cur, h1, -⟩, -⟩ := hr.out
        exact block_lt h1
      clear hr
      go_wp2
      go_ret
      exact ⟨_, rfl, Nat.le_refl _, R.out, G.out, BR.out⟩

/-- Quiet operations have put V j into their slots, those of sp a value with R; N stores. -/
structure JN (ops : Array Oper) (σ : Nat → Nat) (N : Nat) (sp : Nat → Bool) (V : Nat → Value) (R : Nat → Value → World → Prop) (ka : Nat) (T : Value → World → Prop) (a0 : Act) (w : World) (L : Nat → Prop) (a : Act) (u : World) : Prop where
  fe : Fe a0 a ((List.range N).map σ)
  e : ∀ j, j < N → sp j = false → L j → a.eval (.tmp (σ j)) = V j
  r : ∀ j, j < N → sp j = true → L j → ¬ L N → R j (a.eval (.tmp (σ j))) u
  dc : Dc ops L
  n : ¬ L N → Below w.heap.size w u
  s : L N → T (a.eval (.tmp (σ ka))) u
section
variable {ops : Array Oper} {σ : Nat → Nat} {N : Nat} {sp : Nat → Bool} {V : Nat → Value} {R : Nat → Value → World → Prop} {ka : Nat} {T : Value → World → Prop} {a0 : Act} {w : World} {L L' : Nat → Prop} {a : Act} {u u' : World} {i : Nat} {o : Oper}
theorem JN.next (h : JN ops σ N sp V R ka T a0 w L a u) (ho : ops[i]? = some o) (hall : ∀ e ∈ o.after, Region.binds .any e = true → L e.on) (hi : i < N) (hno : ¬ L i) (hinj : ∀ i j, i < N → j < N → σ i = σ j → i = j) (hz : ∀ j, j < N → σ j < a0.tmps.size) (hu : ∀ j, L' j ↔ (j = i ∨ L j)) (a2 : anc ops 40 N i = true) (hR : ∀ j v u', R j v u → Below u.heap.size u u' → R j v u') {v : Value} (hB : Below u.heap.size u u')
    (hv : (sp i = false ∧ v = V i) ∨ (sp i = true ∧ R i v u')) : JN ops σ N sp V R ka T a0 w L' (a.put (some (σ i)) v) u' := by
  have nN : ¬ L N := fun hl => hno (anc_spec h.dc _ _ _ a2 hl)
  have lN : L' N ↔ L N := by rw [hu]; exact ⟨fun h => h.resolve_left (by omega), .inr⟩
  refine ⟨h.fe.put (List.mem_map.2 ⟨i, List.mem_range.2 hi, rfl⟩) _, fun j hj hs hl => ?_, fun j hj hs hl _ => ?_, h.dc.next ho hall hu, fun _ => (h.n nN).trans (hB.mono (h.n nN).size), fun hl => absurd (lN.1 hl) nN⟩
  · by_cases e : j = i
    · subst e
      rw [ev_eq _ _ (by rw [h.fe.sz]; exact hz j hj)]
      rcases hv with hv | hv
      · exact hv.2
      · rw [hs] at hv; cases hv.1
    · exact (ev_ne _ _ (fun he => e (hinj j i hj hi he))).trans (h.e j hj hs (((hu j).1 hl).resolve_left e))
  · by_cases e : j = i
    · subst e
      rw [ev_eq _ _ (by rw [h.fe.sz]; exact hz j hj)]
      rcases hv with hv | hv
      · rw [hs] at hv; cases hv.1
      · exact hv.2
    · rw [ev_ne _ _ (fun he => e (hinj j i hj hi he))]
      exact hR _ _ _ (h.r j hj hs (((hu j).1 hl).resolve_left e) nN) hB
theorem JN.store (h : JN ops σ N sp V R ka T a0 w L a u) (ho : ops[N]? = some o) (hall : ∀ e ∈ o.after, Region.binds .any e = true → L e.on) (hno : ¬ L N) (hu : ∀ j, L' j ↔ (j = N ∨ L j)) (hT : T (a.eval (.tmp (σ ka))) u') : JN ops σ N sp V R ka T a0 w L' a u' := by
  have lN : L' N := (hu N).2 (.inl rfl)
  exact ⟨h.fe, fun j hj hs hl => h.e j hj hs (((hu j).1 hl).resolve_left (by omega)), fun _ _ _ _ hn => absurd lN hn, h.dc.next ho hall hu, fun hn => absurd lN hn, fun _ => hT⟩
theorem JN.done (h : JN ops σ N sp V R ka T a0 w L a u) (hz : ∀ j, j < N → σ j < a0.tmps.size) (hN : L N) : ∃ (V' : Nat → Value), T (V' ka) u ∧ a = puts a0 ((List.range N).map fun j => (σ j, V' j)) := by
  refine ⟨fun j => a.eval (.tmp (σ j)), h.s hN, ?_⟩
  refine Fe.puts _ a0 a (by rw [List.map_map]; exact h.fe) (fun p hp => ?_)
  obtain ⟨j, hj, rfl⟩ := List.mem_map.1 hp
  exact ⟨hz j (List.mem_range.1 hj), rfl⟩
theorem JN.start (hdr : Below w.heap.size w w.drew) (hL : ∀ i, ¬ L i) : JN ops σ N sp V R ka T a0 w L a0 w.drew :=
  ⟨Fe.refl _ _, fun j _ _ h => absurd h (hL _), fun j _ _ h => absurd h (hL _), fun j o _ hl => absurd hl (hL _), fun _ => hdr, fun h => absurd h (hL _)⟩
end

end Go.Proofs.YtfhghijefjhehaaGreatDoor

/-! Ea -/
namespace Go.Proofs.YtfhghijefjhehaaGreatDoor
open Go.RowKit Go.Lib
set_option linter.unusedVariables false

/-- The cells of a text. -/
def cE (xs : List El) : List Value := xs.flatMap elc

theorem cE_nil : cE [] = [] := rfl
theorem cE_cons (x : El) (xs : List El) : cE (x :: xs) = elc x ++ cE xs := rfl
theorem cE_app (xs ys : List El) : cE (xs ++ ys) = cE xs ++ cE ys := by simp [cE]
theorem cE_one (x : El) : cE [x] = elc x := by simp [cE]
theorem cE_len (xs : List El) : (cE xs).length = xs.length * 3 := by
  induction xs with
  | nil => rfl
  | cons x xs ih => rw [cE_cons, List.length_append, ih]; simp [elc]; omega
theorem cE_take (xs : List El) (k : Nat) (hk : k ≤ xs.length) : (cE xs).take (k * 3) = cE (xs.take k) := by
  have h : cE xs = cE (xs.take k) ++ cE (xs.drop k) := by rw [← cE_app, List.take_append_drop]
  rw [h, List.take_append_of_le_length (by rw [cE_len, List.length_take, Nat.min_eq_left hk]; exact Nat.le_refl _), List.take_of_length_le (by rw [cE_len, List.length_take, Nat.min_eq_left hk]; exact Nat.le_refl _)]
theorem cE_drop (xs : List El) (k : Nat) (hk : k ≤ xs.length) : (cE xs).drop (k * 3) = cE (xs.drop k) := by
  have h : cE xs = cE (xs.take k) ++ cE (xs.drop k) := by rw [← cE_app, List.take_append_drop]
  have hl : (cE (xs.take k)).length = k * 3 := by rw [cE_len, List.length_take, Nat.min_eq_left hk]
  rw [h, ← hl, List.drop_left]
theorem cE_one' (xs : List El) : ∀ v ∈ cE xs, v.oneCell' = true := by
  intro v hv
  exact cl_cells szEl xs v hv
theorem cE_get (xs : List El) (i : Nat) (hi : i < xs.length) : (cE xs)[i * 3]? = some (.int .u8 xs[i].1) ∧ (cE xs)[i * 3 + 1]? = some (.int .i64 xs[i].2.1) ∧ (cE xs)[i * 3 + 2]? = some (.int .i64 xs[i].2.2) := by
  have h : cE xs = cE (xs.take i) ++ (elc xs[i] ++ cE (xs.drop (i + 1))) := by
    rw [← cE_cons, ← cE_app]
    congr 1
    rw [← List.drop_eq_getElem_cons hi, List.take_append_drop]
  have hl : (cE (xs.take i)).length = i * 3 := by rw [cE_len, List.length_take]; congr 1; omega
  rw [h]
  refine ⟨?_, ?_, ?_⟩
  · rw [List.getElem?_append_right (by omega), hl, Nat.sub_self]; rfl
  · rw [List.getElem?_append_right (by omega), hl, show i * 3 + 1 - i * 3 = 1 by omega]; rfl
  · rw [List.getElem?_append_right (by omega), hl, show i * 3 + 2 - i * 3 = 2 by omega]; rfl

/-- The slice value at a, of n elements and capacity c, holds the text xs in w. -/
def IsE (w : World) (a : Option Addr) (n c : Nat) (xs : List El) : Prop :=
  xs.length = n ∧ n ≤ c ∧ c ≤ 9223372036854775807 ∧
  (0 < n → ∃ b off, a = some ⟨b, off, none⟩ ∧ b < w.heap.size ∧ ∀ j v, (cE xs)[j]? = some v → w.cell? ⟨b, off + j, none⟩ = some v)

theorem IsE.at {w : World} {b off n c : Nat} {xs : List El} (h : IsE w (some ⟨b, off, none⟩) n c xs) (i : Nat) (hi : i < n) (hx : i < xs.length) :
    w.cell? ⟨b, off + i * 3, none⟩ = some (.int .u8 xs[i].1) ∧ w.cell? ⟨b, off + i * 3 + 1, none⟩ = some (.int .i64 xs[i].2.1) ∧ w.cell? ⟨b, off + i * 3 + 2, none⟩ = some (.int .i64 xs[i].2.2) := by
  obtain ⟨h1, h2, h3, h4⟩ := h
  obtain ⟨b', off', e, hlt, hc⟩ := h4 (by omega)
  have e' := Option.some.inj e
  simp at e'
  obtain ⟨rfl, rfl⟩ := e'
  obtain ⟨g0, g1, g2⟩ := cE_get xs i hx
  exact ⟨hc _ _ g0, by rw [Nat.add_assoc]; exact hc _ _ g1, by rw [Nat.add_assoc]; exact hc _ _ g2⟩

theorem IsE.addr {w : World} {a : Option Addr} {n c : Nat} {xs : List El} (h : IsE w a n c xs) (hn : 0 < n) : ∃ b off, a = some ⟨b, off, none⟩ ∧ b < w.heap.size := by
  obtain ⟨b, off, e, hlt, _⟩ := h.2.2.2 hn
  exact ⟨b, off, e, hlt⟩

theorem IsE.fr {S : Nat → Prop} {w w' : World} {a : Option Addr} {n c : Nat} {xs : List El} (h : IsE w a n c xs) (hb : Fr S w w') (hr : 0 < n → ∀ b off, a = some ⟨b, off, none⟩ → ¬ S b) : IsE w' a n c xs := by
  obtain ⟨h1, h2, h3, h4⟩ := h
  refine ⟨h1, h2, h3, fun hn => ?_⟩
  obtain ⟨b, off, e, hlt, hc⟩ := h4 hn
  refine ⟨b, off, e, Nat.lt_of_lt_of_le hlt hb.size, fun j v hj => ?_⟩
  rw [hb.cell (p := ⟨b, off + j, none⟩) hlt (hr hn b off e)]
  exact hc j v hj
theorem IsE.below {w w' : World} {a : Option Addr} {n c : Nat} {xs : List El} (h : IsE w a n c xs) (hb : Below w.heap.size w w') : IsE w' a n c xs :=
  h.fr (S := fun _ => False) (Fr.of_below hb) (fun _ _ _ _ h => h)
theorem isE_nil (w : World) : IsE w none 0 0 [] := ⟨rfl, Nat.le_refl _, by omega, fun h => by omega⟩

theorem IsE.take {w : World} {a : Option Addr} {n c : Nat} {xs : List El} (h : IsE w a n c xs) (m : Nat) (hm : m ≤ n) : IsE w a m c (xs.take m) := by
  obtain ⟨h1, h2, h3, h4⟩ := h
  refine ⟨by simp; omega, by omega, h3, fun hn => ?_⟩
  obtain ⟨b, off, e, hlt, hc⟩ := h4 (by omega)
  refine ⟨b, off, e, hlt, fun j v hj => hc j v ?_⟩
  rw [← cE_take xs m (by omega), List.getElem?_take] at hj
  split at hj
  · exact hj
  · cases hj

/-- Part of a text: from place k on. -/
theorem IsE.drop {w : World} {b off n c : Nat} {xs : List El} (h : IsE w (some ⟨b, off, none⟩) n c xs) (k : Nat) (hk : k ≤ n) : IsE w (some ⟨b, off + k * 3, none⟩) (n - k) (c - k) (xs.drop k) := by
  obtain ⟨h1, h2, h3, h4⟩ := h
  refine ⟨by simp; omega, by omega, by omega, fun hn => ?_⟩
  obtain ⟨b', off', e, hlt, hc⟩ := h4 (by omega)
  have e' := Option.some.inj e
  simp at e'
  obtain ⟨rfl, rfl⟩ := e'
  refine ⟨b, off + k * 3, rfl, hlt, fun j v hj => ?_⟩
  rw [← cE_drop xs k (by omega), List.getElem?_drop] at hj
  rw [Nat.add_assoc]
  exact hc _ _ hj

/-- Block g is a row of cap elements, the first N of them xs. -/
def RowE (w : World) (g N cap : Nat) (xs : List El) : Prop :=
  ∃ cur : List Value, w.heap[g]? = some (.cells cur.toArray 42 (0, 0)) ∧ cur.take (N * 3) = cE xs ∧ xs.length = N ∧ N ≤ cap ∧ cap ≤ 9223372036854775807 ∧ cur.length = cap * 3

theorem RowE.fr {S : Nat → Prop} {w w' : World} {g N cap : Nat} {xs : List El} (h : RowE w g N cap xs) (hF : Fr S w w') (hS : ¬ S g) : RowE w' g N cap xs := by
  obtain ⟨cur, hh, r⟩ := h
  exact ⟨cur, hF.keeps hh hS, r⟩
theorem RowE.lt {w : World} {g N cap : Nat} {xs : List El} (h : RowE w g N cap xs) : g < w.heap.size := by
  obtain ⟨cur, hh, _⟩ := h
  exact block_lt hh
theorem RowE.isE {w : World} {g N cap : Nat} {xs : List El} (h : RowE w g N cap xs) : IsE w (some ⟨g, 0, none⟩) N cap xs := by
  obtain ⟨cur, hh, ht, hl, hn, hm, hs⟩ := h
  refine ⟨hl, hn, hm, fun _ => ⟨g, 0, rfl, block_lt hh, fun j v hj => ?_⟩⟩
  rw [Nat.zero_add, cell_row hh, List.getElem?_toArray]
  rw [← ht, List.getElem?_take] at hj
  split at hj
  · exact hj
  · cases hj

theorem Tryz.infoE : (Tryz.prog.info? 42).map (fun i => (i.zero, i.size, i.bytes)) = some (some (.agg #[.int .u8 0, .int .i64 0, .int .i64 0]), 3, 24) := by kernel_rfl

end Go.Proofs.YtfhghijefjhehaaGreatDoor

/-! Te -/
namespace Go.Proofs.YtfhghijefjhehaaGreatDoor
open Go.RowKit Go.Lib
set_option linter.unusedVariables false

/-- nil, or a row at the block. -/
def SE (w : World) (β : Option Nat) (v : Value) (xs : List El) : Prop :=
  match β with
  | none => v = .slice none 0 0 ∧ xs = []
  | some g => ∃ cap, v = .slice (some ⟨g, 0, none⟩) xs.length cap ∧ RowE w g xs.length cap xs

theorem SE.fr {S : Nat → Prop} {w w' : World} {β : Option Nat} {v : Value} {xs : List El} (h : SE w β v xs) (hF : Fr S w w') (hS : ∀ g, β = some g → ¬ S g) : SE w' β v xs := by
  cases β with
  | none => exact h
  | some g =>
    obtain ⟨cap, hv, hR⟩ := h
    exact ⟨cap, hv, hR.fr hF (hS g rfl)⟩
theorem SE.below {w w' : World} {β : Option Nat} {v : Value} {xs : List El} (h : SE w β v xs) (hb : Below w.heap.size w w') : SE w' β v xs :=
  h.fr (S := fun _ => False) (Fr.of_below hb) (fun _ _ h => h)
theorem SE.lt {w : World} {β : Option Nat} {v : Value} {xs : List El} (h : SE w β v xs) : ∀ g, β = some g → g < w.heap.size := by
  rintro g rfl
  obtain ⟨cap, hv, hR⟩ := h
  exact hR.lt
theorem SE.form {w : World} {β : Option Nat} {v : Value} {xs : List El} (h : SE w β v xs) : ∃ a c, v = .slice a xs.length c ∧ IsE w a xs.length c xs ∧ ∀ b off, a = some ⟨b, off, none⟩ → β = some b := by
  cases β with
  | none =>
    obtain ⟨rfl, rfl⟩ := h
    exact ⟨none, 0, rfl, isE_nil w, fun b off e => by cases e⟩
  | some g =>
    obtain ⟨cap, rfl, hR⟩ := h
    refine ⟨_, cap, rfl, hR.isE, fun b off e => ?_⟩
    have := Option.some.inj e
    simp at this
    rw [this.1]

/-- Put in with room: what lies in the row behind the two copies. -/
theorem shift_take (L : List Value) (xs : List El) (x : El) (i n : Nat) (hx : xs.length = n) (hi : i ≤ n) (hL : (n + 1) * 3 ≤ L.length) (ht : L.take (n * 3) = cE xs) :
    (splice (splice L ((i + 1) * 3) (cE (xs.drop i))) (i * 3) (elc x)).take ((n + 1) * 3) = cE (xs.take i ++ x :: xs.drop i) := by
  have hd' : (cE (xs.drop i)).length = (n - i) * 3 := by rw [cE_len, List.length_drop, hx]
  have h1 : (splice L ((i + 1) * 3) (cE (xs.drop i))).length = L.length := length_splice _ _ _ (by rw [hd']; omega)
  have h2 : (splice L ((i + 1) * 3) (cE (xs.drop i))).take (i * 3) = cE (xs.take i) := by
    rw [splice_take _ _ _ _ (by omega) (by omega), ← cE_take xs i (by omega), ← ht, List.take_take, Nat.min_eq_left (by omega)]
  have h3 : (splice L ((i + 1) * 3) (cE (xs.drop i))).drop (i * 3 + (elc x).length) = cE (xs.drop i) ++ L.drop ((i + 1) * 3 + (cE (xs.drop i)).length) := by
    rw [show i * 3 + (elc x).length = (i + 1) * 3 from by simp [elc]; omega]
    exact splice_drop _ _ _ (by omega)
  rw [show splice (splice L ((i + 1) * 3) (cE (xs.drop i))) (i * 3) (elc x) = cE (xs.take i) ++ (elc x ++ (cE (xs.drop i) ++ L.drop ((i + 1) * 3 + (cE (xs.drop i)).length))) from by
    rw [← h2, ← h3]; rfl]
  have e : cE (xs.take i ++ x :: xs.drop i) = cE (xs.take i) ++ (elc x ++ cE (xs.drop i)) := by rw [cE_app, cE_cons]
  have el : (cE (xs.take i ++ x :: xs.drop i)).length = (n + 1) * 3 := by
    rw [cE_len]; simp; omega
  rw [← List.append_assoc (elc x), ← List.append_assoc (cE (xs.take i)), ← e, ← el, List.take_left]

/-- Take out: what lies in the row. -/
theorem unshift_take (L : List Value) (xs : List El) (z : List Value) (i n : Nat) (hx : xs.length = n) (hi : i < n) (hL : n * 3 ≤ L.length) (ht : L.take (n * 3) = cE xs) :
    (splice (splice L (i * 3) (cE (xs.drop (i + 1)))) ((n - 1) * 3) z).take ((n - 1) * 3) = cE (xs.take i ++ xs.drop (i + 1)) := by
  have hd' : (cE (xs.drop (i + 1))).length = (n - (i + 1)) * 3 := by rw [cE_len, List.length_drop, hx]
  have h1 : (splice L (i * 3) (cE (xs.drop (i + 1)))).length = L.length := length_splice _ _ _ (by rw [hd']; omega)
  rw [splice_take _ _ _ _ (by omega) (by omega)]
  have el : (cE (xs.take i ++ xs.drop (i + 1))).length = (n - 1) * 3 := by
    rw [cE_len]; simp; omega
  have h2 : L.take (i * 3) = cE (xs.take i) := by rw [← cE_take xs i (by omega), ← ht, List.take_take, Nat.min_eq_left (by omega)]
  unfold splice
  rw [h2, ← List.append_assoc, ← cE_app, ← el, List.take_left]

/-- The text at β is now ys, at v. -/
def NowE (w w' : World) (β : Option Nat) (v : Value) (ys : List El) : Prop := ∃ β', SE w' β' v ys ∧ Moved w β β' ∧ Fr (fun k => β = some k) w w'

end Go.Proofs.YtfhghijefjhehaaGreatDoor

/-! TIns -/
namespace Go.Proofs.YtfhghijefjhehaaGreatDoor
open Go.RowKit Go.Lib
set_option linter.unusedVariables false

theorem sizeE (w : World) : (Go.sizeOf 42).run Tryz.prog w = .ok 3 w := by
  obtain ⟨i0, hi, hz0, hz1, hz2⟩ := info_parts Tryz.infoE
  simp [sizeOf, typeInfo, hi, hz1]
theorem sizeE' : (Tryz.prog.info? 42).map (·.size) = some 3 := by
  obtain ⟨i0, hi, hz0, hz1, hz2⟩ := info_parts Tryz.infoE
  rw [hi]
  simp [hz1]

theorem row_cells {w : World} {g N : Nat} {xs : List El} {cur : List Value} {t : TypeId} (hg : w.heap[g]? = some (.cells cur.toArray t (0, 0))) (ht : cur.take (N * 3) = cE xs) (hx : xs.length = N) (k : Nat) (hk : k ≤ N) :
    ∀ j v, (cE (xs.drop k))[j]? = some v → w.cell? ((⟨g, k * 3, none⟩ : Addr).add j) = some v := by
  intro j v hj
  rw [add_lit, cell_row hg, List.getElem?_toArray]
  rw [← cE_drop xs k (by omega), List.getElem?_drop, ← ht, List.getElem?_take] at hj
  split at hj
  · exact hj
  · cases hj

set_option maxHeartbeats 4000000 in
set_option maxRecDepth 100000 in
theorem insert_shift (g vb n c i : Nat) (x : El) (xs : List El) (cur : List Value) (w : World) (hi : i < n) (hroom : n + 1 ≤ c) (hc63 : c ≤ 9223372036854775807) (hvb : vb ≠ g)
    (hg : Hid (w.heap[g]? = some (.cells cur.toArray 42 (0, 0)))) (ht : Hid (cur.take (n * 3) = cE xs)) (hx : Hid (xs.length = n)) (hcl : Hid (cur.length = c * 3)) (hv : Hid (w.heap[vb]? = some (.cells (elc x).toArray 42 (0, 0)))) :
    Calls Tryz.prog 131 #[.slice (some ⟨g, 0, none⟩) n c, .int .i64 i, .slice (some ⟨vb, 0, none⟩) 1 1] w fun e w' =>
      e = .returned (.slice (some ⟨g, 0, none⟩) (n + 1) c) ∧ w'.heap[g]? = some (.cells (splice (splice cur ((i + 1) * 3) (cE (xs.drop i))) (i * 3) (elc x)).toArray 42 (0, 0)) ∧ Fr (· = g) w w' := by
  have hov : ∀ lb cb, (callFunc 151 #[.slice (some ⟨vb, 0, none⟩) 1 1, .slice (some ⟨g, (i + 1) * 3, none⟩) lb cb]).run Tryz.prog w = .ok (.value (.bool false)) w := fun lb cb => by
    have hsa : w.shape? vb = some (42, 3) := by simp [World.shape?, hv.out, elc]
    have hsb : w.shape? g = some (42, c * 3) := by simp [World.shape?, hg.out, hcl.out]
    rw [run_callFunc_extern Tryz.func151 (by kernel_rfl) (by kernel_rfl) (by kernel_rfl) (e := Extern.SlicesOverlaps.overlaps #[70, 70] #[4]) (by kernel_rfl),
      Lib.run_overlaps_apart w 70 4 42 Tryz.underlying70 3 sizeE ⟨vb, 0, none⟩ ⟨g, (i + 1) * 3, none⟩ 1 1 lb cb hvb 42 42 3 (c * 3) hsa hsb (by omega) (frozen_row hv.out 0) (frozen_row hv.out 3)]
    rfl
  have hdl : (cE (xs.drop i)).length = (n - i) * 3 := by rw [cE_len, List.length_drop, hx.out]
  have hgd : w.drew.heap[g]? = some (.cells cur.toArray 42 (0, 0)) := hg.out
  have hcp1 : ∀ ty dc sc, (Builtin.copy_ #[70, 70] ty #[.slice (some ⟨g, (i + 1) * 3, none⟩) (n - i) dc, .slice (some ⟨g, i * 3, none⟩) (n + 1 - i) sc]).run Tryz.prog w.drew = .ok (goInt (n - i : Nat)) (w.drew.setRow g (splice cur ((i + 1) * 3) (cE (xs.drop i))).toArray) := fun ty dc sc =>
    run_copy_k w.drew 70 70 ty 42 3 g ((i + 1) * 3) (n - i) dc ⟨g, i * 3, none⟩ (n + 1 - i) sc (n - i) cur 42 _ Tryz.underlying70 sizeE' hgd (by simp only [Nat.min_def]; split <;> omega) hdl
      (row_cells hgd ht.out hx.out i (by omega)) (by rw [hdl, hcl.out]; omega) (cE_one' _)
  obtain ⟨W1, hW1⟩ : ∃ W1, W1 = w.drew.setRow g (splice cur ((i + 1) * 3) (cE (xs.drop i))).toArray := ⟨_, rfl⟩
  rw [← hW1] at hcp1
  have hg1 : W1.heap[g]? = some (.cells (splice cur ((i + 1) * 3) (cE (xs.drop i))).toArray 42 (0, 0)) := by rw [hW1]; exact setRow_heap w.drew g _ _ 42 _ hgd
  have F1 : Fr (· = g) w W1 := by rw [hW1]; exact (Fr.drew _ w).trans (Fr.setRow _ _ _ rfl)
  have hv1 : W1.heap[vb]? = some (.cells (elc x).toArray 42 (0, 0)) := F1.keeps hv.out hvb
  have hcp2 : ∀ ty dc, (Builtin.copy_ #[70, 70] ty #[.slice (some ⟨g, i * 3, none⟩) (n + 1 - i) dc, .slice (some ⟨vb, 0, none⟩) 1 1]).run Tryz.prog W1 = .ok (goInt (1 : Nat)) (W1.setRow g (splice (splice cur ((i + 1) * 3) (cE (xs.drop i))) (i * 3) (elc x)).toArray) := fun ty dc =>
    run_copy_k W1 70 70 ty 42 3 g (i * 3) (n + 1 - i) dc ⟨vb, 0, none⟩ 1 1 1 _ 42 _ Tryz.underlying70 sizeE' hg1 (by simp only [Nat.min_def]; split <;> omega) rfl
      (fun j v hj => by rw [add_lit, Nat.zero_add, cell_row hv1, List.getElem?_toArray]; exact hj) (by rw [length_splice _ _ _ (by rw [hdl, hcl.out]; omega), hcl.out]; simp [elc]; omega) (by rw [← cE_one]; exact cE_one' _)
  obtain ⟨W2, hW2⟩ : ∃ W2, W2 = W1.setRow g (splice (splice cur ((i + 1) * 3) (cE (xs.drop i))) (i * 3) (elc x)).toArray := ⟨_, rfl⟩
  rw [← hW2] at hcp2
  have R : Hid (W2.heap[g]? = some (.cells (splice (splice cur ((i + 1) * 3) (cE (xs.drop i))) (i * 3) (elc x)).toArray 42 (0, 0)) ∧ Fr (· = g) w W2) := by
    rw [hW2]
    exact ⟨setRow_heap W1 g _ _ 42 _ hg1, F1.trans (Fr.setRow _ _ _ rfl)⟩
  clear hW1 hg1 F1 hv1 hW2 hgd hdl
  have hz2 : ¬ ((i : Int) = (n : Int)) := by omega
  have hw1 : IntKind.i64.wrap ((i : Int) + 1) = (i : Int) + 1 := by rw [IntKind.wrap_i64]; omega
  have hb1 : (0 : Int) ≤ (i : Int) + 1 := by omega
  have hin : i ≤ n := by omega
  have htn : ((i : Int) + 1).toNat = i + 1 := by omega
  have hb2 : ¬ (c = i + 1) := by omega
  have hb3 : (i : Int) ≤ (n : Int) + 1 := by omega
  have hb4 : ¬ (c = i) := by omega
  go_enter Tryz.func131, Tryz.ntmps131
  go_wp2_with (simp only [hov])
  go_region_law (refine step_copy_k rfl _ _ 70 70 rfl _ _ (by simp [Act.eval, Act.put]) (by simp [Act.eval, Act.put]) (hcp1 _ _ _) ?_)
  go_wp2_with (at_builtin; refine wpList_copy_k _ rfl _ _ 70 70 rfl _ _ rfl rfl (hcp2 _ _) ?_)
  go_ret
  exact ⟨rfl, R.out⟩
end Go.Proofs.YtfhghijefjhehaaGreatDoor

/-! TInb -/
namespace Go.Proofs.YtfhghijefjhehaaGreatDoor
open Go.RowKit Go.Lib
set_option linter.unusedVariables false

theorem grow_take (R : List Value) (xs : List El) (x : El) (i n : Nat) (hx : xs.length = n) (hi : i ≤ n) (hL : (n + 1) * 3 ≤ R.length) (ht : R.take (i * 3) = cE (xs.take i)) :
    (splice (splice R (i * 3) (elc x)) ((i + 1) * 3) (cE (xs.drop i))).take ((n + 1) * 3) = cE (xs.take i ++ x :: xs.drop i) := by
  have hd' : (cE (xs.drop i)).length = (n - i) * 3 := by rw [cE_len, List.length_drop, hx]
  have he : (elc x).length = 3 := rfl
  have h1 : (splice R (i * 3) (elc x)).length = R.length := length_splice _ _ _ (by rw [he]; omega)
  have h2 := splice_take_end (splice R (i * 3) (elc x)) ((i + 1) * 3) (cE (xs.drop i)) (by omega)
  have h3 := splice_take_end R (i * 3) (elc x) (by omega)
  rw [he, show i * 3 + 3 = (i + 1) * 3 by omega] at h3
  rw [hd', show (i + 1) * 3 + (n - i) * 3 = (n + 1) * 3 by omega, h3, ht] at h2
  rw [h2, cE_app, cE_cons, List.append_assoc]

theorem zero_len (k : Nat) : (Builtin.zeroCells #[.int .u8 0, .int .i64 0, .int .i64 0] k).toList.length = k * 3 := by
  rw [Array.length_toList, size_zeroCells]
  rfl

/-- append of the zero values of a make, where there is no room. -/
theorem run_zeros (w : World) (g n i : Nat) (xs : List El) (cur : List Value) (hi : i < n) (hn : n ≤ 4096)
    (hg : w.heap[g]? = some (.cells cur.toArray 42 (0, 0))) (ht : cur.take (n * 3) = cE xs) (hx : xs.length = n) :
    ∃ G w' ROW, n + 1 ≤ G ∧ G ≤ 9223372036854775807 ∧ (∀ ty, (Builtin.append_ #[70, 3] ty #[.slice (some ⟨g, 0, none⟩) i n, .int .i64 ((n : Int) + 1 - (i : Int))]).run Tryz.prog w = .ok (.slice (some ⟨w.heap.size, 0, none⟩) (n + 1) G) w') ∧
      w'.heap[w.heap.size]? = some (.cells (ROW : List Value).toArray 42 (0, 0)) ∧ ROW.length = G * 3 ∧ ROW.take (i * 3) = cE (xs.take i) ∧ Fr (fun _ => False) w w' := by
  obtain ⟨i0, hi0, hz0, hz1, hz2⟩ := info_parts Tryz.infoE
  have hold : (Builtin.firstCells i0.size i (.slice (some ⟨g, 0, none⟩) i n)).run Tryz.prog w.drew = .ok (cE (xs.take i)).toArray w.drew := by
    refine run_firstCells_some w.drew i0.size i ⟨g, 0, none⟩ i n (cE (xs.take i)) (by rw [hz1, cE_len, List.length_take, hx, Nat.min_eq_left (Nat.le_of_lt hi)]) (fun j v hj => ?_)
    have hgd : w.drew.heap[g]? = some (.cells cur.toArray 42 (0, 0)) := hg
    rw [add_lit, Nat.zero_add, cell_row hgd, List.getElem?_toArray]
    rw [← cE_take xs i (by omega), ← ht, List.take_take, List.getElem?_take] at hj
    split at hj
    · exact hj
    · cases hj
  have h := fun ty => Lib.run_append_grow_zeros w 70 3 ty 42 i0 _ .i64 .i64 Tryz.underlying70 Tryz.underlying3 hi0 hz0 (some ⟨g, 0, none⟩) i n (cE (xs.take i)) hold (n + 1 - i) (by omega) (by omega) (by omega) (by omega) (by rw [hz2]; omega) (growslice_fits (by omega) (by rw [hz2]; omega))
  have hk : (n : Int) + 1 - (i : Int) = ((n + 1 - i : Nat) : Int) := by omega
  have hik : i + (n + 1 - i) = n + 1 := by omega
  simp only [hik] at h
  have hG1 := grownCap_ge w (n + 1) n 42
  have hG2 := grownCap_le_maxLen w (n + 1) n 42 (by unfold maxLen; omega)
  generalize grownCap w (n + 1) n 42 = G at h hG1 hG2
  refine ⟨G, _, ((cE (xs.take i)).toArray ++ Builtin.zeroCells #[.int .u8 0, .int .i64 0, .int .i64 0] (n + 1 - i) ++ Builtin.zeroCells #[.int .u8 0, .int .i64 0, .int .i64 0] (G - (n + 1))).toList, hG1, hG2, fun ty => by rw [hk]; exact h ty, ?_, ?_, ?_, (Fr.drew _ w).trans (Fr.alloc _ _ _)⟩
  · rw [show w.heap.size = w.drew.heap.size from rfl, heap_alloc_new]
    simp [Value.cells]
  · rw [Array.toList_append, Array.toList_append, List.length_append, List.length_append, zero_len, zero_len, List.toList_toArray, cE_len, List.length_take]
    omega
  · rw [Array.toList_append, Array.toList_append, List.toList_toArray, List.append_assoc, List.take_append_of_le_length (by rw [cE_len, List.length_take]; omega), List.take_of_length_le (by rw [cE_len, List.length_take]; omega)]

set_option maxHeartbeats 4000000 in
set_option maxRecDepth 100000 in
theorem insert_grow (g vb n i : Nat) (x : El) (xs : List El) (cur : List Value) (w : World) (hi : i < n) (hn : n ≤ 4096)
    (hg : Hid (w.heap[g]? = some (.cells cur.toArray 42 (0, 0)))) (ht : Hid (cur.take (n * 3) = cE xs)) (hx : Hid (xs.length = n)) (hv : Hid (w.heap[vb]? = some (.cells (elc x).toArray 42 (0, 0)))) :
    Calls Tryz.prog 131 #[.slice (some ⟨g, 0, none⟩) n n, .int .i64 i, .slice (some ⟨vb, 0, none⟩) 1 1] w fun e w' =>
      ∃ G, e = .returned (.slice (some ⟨w.heap.size, 0, none⟩) (n + 1) G) ∧ RowE w' w.heap.size (n + 1) G (xs.take i ++ x :: xs.drop i) ∧ Fr (fun _ => False) w w' := by
  obtain ⟨G, W1, ROW, hG1, hG63, hrz, hR1, hRl, hRt, hF1⟩ := run_zeros w g n i xs cur hi hn hg.out ht.out hx.out
  have hdl : (cE (xs.drop i)).length = (n - i) * 3 := by rw [cE_len, List.length_drop, hx.out]
  have hv1 : W1.heap[vb]? = some (.cells (elc x).toArray 42 (0, 0)) := hF1.keeps hv.out (fun h => h)
  have hg1 : W1.heap[g]? = some (.cells cur.toArray 42 (0, 0)) := hF1.keeps hg.out (fun h => h)
  have hcpA : ∀ ty dc, (Builtin.copy_ #[70, 70] ty #[.slice (some ⟨w.heap.size, i * 3, none⟩) (n + 1 - i) dc, .slice (some ⟨vb, 0, none⟩) 1 1]).run Tryz.prog W1 = .ok (goInt (1 : Nat)) (W1.setRow w.heap.size (splice ROW (i * 3) (elc x)).toArray) := fun ty dc =>
    run_copy_k W1 70 70 ty 42 3 w.heap.size (i * 3) (n + 1 - i) dc ⟨vb, 0, none⟩ 1 1 1 _ 42 _ Tryz.underlying70 sizeE' hR1 (by simp only [Nat.min_def]; split <;> omega) rfl
      (fun j v hj => by rw [add_lit, Nat.zero_add, cell_row hv1, List.getElem?_toArray]; exact hj) (by rw [hRl]; simp [elc]; omega) (by rw [← cE_one]; exact cE_one' _)
  obtain ⟨W2, hW2⟩ : ∃ W2, W2 = W1.setRow w.heap.size (splice ROW (i * 3) (elc x)).toArray := ⟨_, rfl⟩
  rw [← hW2] at hcpA
  have hR2 : W2.heap[w.heap.size]? = some (.cells (splice ROW (i * 3) (elc x)).toArray 42 (0, 0)) := by rw [hW2]; exact setRow_heap W1 _ _ _ 42 _ hR1
  have hF2 : Fr (fun _ => False) w W2 := by rw [hW2]; exact hF1.next (Fr.setRow (S := fun k => k = w.heap.size) _ _ _ rfl) (fun k hk e => by omega)
  have hg2 : W2.heap[g]? = some (.cells cur.toArray 42 (0, 0)) := hF2.keeps hg.out (fun h => h)
  have hl2 : (splice ROW (i * 3) (elc x)).length = G * 3 := by rw [length_splice _ _ _ (by rw [hRl]; simp [elc]; omega), hRl]
  have hg2d : W2.drew.heap[g]? = some (.cells cur.toArray 42 (0, 0)) := hg2
  have hR2d : W2.drew.heap[w.heap.size]? = some (.cells (splice ROW (i * 3) (elc x)).toArray 42 (0, 0)) := hR2
  have hcpB : ∀ ty dc sc, (Builtin.copy_ #[70, 70] ty #[.slice (some ⟨w.heap.size, (i + 1) * 3, none⟩) (n - i) dc, .slice (some ⟨g, i * 3, none⟩) (n - i) sc]).run Tryz.prog W2.drew = .ok (goInt (n - i : Nat)) (W2.drew.setRow w.heap.size (splice (splice ROW (i * 3) (elc x)) ((i + 1) * 3) (cE (xs.drop i))).toArray) := fun ty dc sc =>
    run_copy_k W2.drew 70 70 ty 42 3 w.heap.size ((i + 1) * 3) (n - i) dc ⟨g, i * 3, none⟩ (n - i) sc (n - i) _ 42 _ Tryz.underlying70 sizeE' hR2d (Nat.min_self _).symm hdl
      (row_cells hg2d ht.out hx.out i (by omega)) (by rw [hdl, hl2]; omega) (cE_one' _)
  obtain ⟨W3, hW3⟩ : ∃ W3, W3 = W2.drew.setRow w.heap.size (splice (splice ROW (i * 3) (elc x)) ((i + 1) * 3) (cE (xs.drop i))).toArray := ⟨_, rfl⟩
  rw [← hW3] at hcpB
  have R : Hid (RowE W3 w.heap.size (n + 1) G (xs.take i ++ x :: xs.drop i) ∧ Fr (fun _ => False) w W3) := by
    refine ⟨⟨_, by rw [hW3]; exact setRow_heap W2.drew _ _ _ 42 _ hR2d, grow_take ROW xs x i n hx.out (by omega) (by omega) hRt, by have := hx.out; simp; omega, hG1, hG63, ?_⟩, ?_⟩
    · rw [length_splice _ _ _ (by rw [hdl, hl2]; omega), hl2]
    · rw [hW3]
      exact (hF2.trans (Fr.drew _ _)).next (Fr.setRow (S := fun k => k = w.heap.size) _ _ _ rfl) (fun k hk e => by omega)
  clear hR1 hRl hRt hF1 hv1 hg1 hW2 hR2 hF2 hg2 hl2 hg2d hR2d hW3 hdl
  have hz2 : ¬ ((i : Int) = (n : Int)) := by omega
  have hz3 : (n : Int) < (n : Int) + 1 := by omega
  have hw1 : IntKind.i64.wrap ((i : Int) + 1) = (i : Int) + 1 := by rw [IntKind.wrap_i64]; omega
  have hb1 : (0 : Int) ≤ (i : Int) + 1 := by omega
  have hin : i ≤ n := by omega
  have htn : ((i : Int) + 1).toNat = i + 1 := by omega
  have hb3 : (i : Int) ≤ (n : Int) := by omega
  have hGi : ¬ (G = i) := by omega
  have hGim : ¬ (G = i + 1) := by omega
  have hci : ¬ (n = i) := by omega
  go_enter Tryz.func131, Tryz.ntmps131
  go_wp2_with (first
    | (at_builtin; refine wpList_append_k _ rfl _ _ 70 3 rfl _ _ rfl rfl (hrz _) ?_)
    | (at_builtin; refine wpList_copy_k _ rfl _ _ 70 70 rfl _ _ rfl rfl (hcpA _ _) ?_))
  go_region_law (refine step_copy_k rfl _ _ 70 70 rfl _ _ (by simp [Act.eval, Act.put]) (by simp [Act.eval, Act.put]) (hcpB _ _ _) ?_)
  go_wp2
  go_ret
  exact ⟨G, rfl, R.out⟩

end Go.Proofs.YtfhghijefjhehaaGreatDoor

/-! TInc -/
namespace Go.Proofs.YtfhghijefjhehaaGreatDoor
open Go.RowKit Go.Lib
set_option linter.unusedVariables false

theorem push_take (L : List Value) (xs : List El) (x : El) (n : Nat) (hx : xs.length = n) (hL : n * 3 ≤ L.length) (ht : L.take (n * 3) = cE xs) :
    (splice L (n * 3) (elc x)).take ((n + 1) * 3) = cE (xs ++ [x]) := by
  have h := splice_take_end L (n * 3) (elc x) hL
  rw [show n * 3 + (elc x).length = (n + 1) * 3 from by simp [elc]; omega, ht] at h
  rw [h, cE_app, cE_one]

/-- append of one element onto nil or a row of the call's own. -/
theorem run_pushE (w : World) (β : Option Nat) (v : Value) (xs : List El) (hv : SE w β v xs) (vb : Nat) (x : El) (hb : w.heap[vb]? = some (.cells (elc x).toArray 42 (0, 0))) (hn : xs.length ≤ 4096) :
    ∃ v' w', (∀ ty, (Builtin.append_ #[70, 70] ty #[v, .slice (some ⟨vb, 0, none⟩) 1 1]).run Tryz.prog w = .ok v' w') ∧ NowE w w' β v' (xs ++ [x]) := by
  obtain ⟨i0, hi0, hz0, hz1, hz2⟩ := info_parts Tryz.infoE
  have hl : (elc x).length = 1 * i0.size := by rw [hz1]; rfl
  have hnews : ∀ j u, (elc x)[j]? = some u → w.cell? ((⟨vb, 0, none⟩ : Addr).add j) = some u := fun j u hj => by
    rw [add_lit, Nat.zero_add, cell_row hb, List.getElem?_toArray]
    exact hj
  have h1 : ∀ u ∈ elc x, u.oneCell' = true := by rw [← cE_one]; exact cE_one' _
  have newrow : ∀ G, xs.length + 1 ≤ G → G ≤ 9223372036854775807 → RowE (w.drew.alloc (.cells ((cE xs).toArray ++ (elc x).toArray ++ Builtin.zeroCells #[.int .u8 0, .int .i64 0, .int .i64 0] (G - (xs.length + 1))) 42)) w.heap.size (xs.length + 1) G (xs ++ [x]) := by
    intro G hG1 hG2
    refine ⟨((cE xs).toArray ++ (elc x).toArray ++ Builtin.zeroCells #[.int .u8 0, .int .i64 0, .int .i64 0] (G - (xs.length + 1))).toList, ?_, ?_, by simp, hG1, hG2, ?_⟩
    · rw [show w.heap.size = w.drew.heap.size from rfl, heap_alloc_new]
    · rw [Array.toList_append, Array.toList_append, List.toList_toArray, List.toList_toArray]
      have : (cE xs ++ elc x).length = (xs.length + 1) * 3 := by rw [List.length_append, cE_len]; simp [elc]; omega
      rw [← this, List.take_left, cE_app, cE_one]
    · rw [Array.toList_append, Array.toList_append, List.length_append, List.length_append, zero_len, List.toList_toArray, List.toList_toArray, cE_len]
      simp [elc]
      omega
  cases β with
  | none =>
    obtain ⟨rfl, rfl⟩ := hv
    have hr := fun ty => run_append_nil (P := Tryz.prog) w 70 ty 42 i0 _ Tryz.underlying70 hi0 hz0 ⟨vb, 0, none⟩ 1 1 (elc x) hl hnews (by omega) (by omega) (by rw [hz2]; omega)
    have hG1 := grownCap_ge w 1 0 42
    have hG2 := grownCap_le_maxLen w 1 0 42 (by unfold maxLen; omega)
    generalize grownCap w 1 0 42 = G at hr hG1 hG2
    refine ⟨_, _, hr, some w.heap.size, ?_, .inr ⟨_, rfl, Nat.le_refl _⟩, (Fr.drew _ w).trans (Fr.alloc _ _ _)⟩
    have := newrow G hG1 hG2
    simp [cE_nil] at this
    refine ⟨G, rfl, ?_⟩
    simpa [Value.cells] using this
  | some g =>
    obtain ⟨cap, rfl, cur, hh, htk, hvl, hnc, hcm, hcs⟩ := hv
    by_cases hroom : xs.length + 1 ≤ cap
    · have hr := fun ty => run_append_room (P := Tryz.prog) w 70 ty 42 i0 Tryz.underlying70 hi0 g xs.length cap cur.toArray hh ⟨vb, 0, none⟩ 1 1 (elc x) hl hnews h1 hroom (by rw [hz1]; simp [elc, hcs]; omega)
      refine ⟨_, _, hr, some g, ⟨cap, by simp, ?_⟩, .inl rfl, Fr.setRow _ _ _ rfl⟩
      rw [hz1]
      refine ⟨splice cur (xs.length * 3) (elc x), ?_, by simpa using push_take cur xs x xs.length rfl (by omega) htk, rfl, by simpa using hroom, hcm, ?_⟩
      · have := setRow_heap w g cur.toArray (splice cur (xs.length * 3) (elc x)).toArray 42 _ hh
        simpa [splice] using this
      · rw [length_splice _ _ _ (by simp [elc]; omega), hcs]
    · have holds : ∀ j u, (cE xs)[j]? = some u → w.cell? ((⟨g, 0, none⟩ : Addr).add j) = some u := by
        have := row_cells hh htk rfl 0 (Nat.zero_le _)
        simpa using this
      have hr := fun ty => run_append_grow (P := Tryz.prog) w 70 ty 42 i0 _ Tryz.underlying70 hi0 hz0 ⟨g, 0, none⟩ xs.length cap (cE xs) (by rw [hz1, cE_len]) holds ⟨vb, 0, none⟩ 1 1 (elc x) hl hnews (by omega) (by omega) (growslice_fits (by omega) (by rw [hz2]; omega))
      have hG1 := grownCap_ge w (xs.length + 1) cap 42
      have hG2 := grownCap_le_maxLen w (xs.length + 1) cap 42 (by unfold maxLen; omega)
      generalize grownCap w (xs.length + 1) cap 42 = G at hr hG1 hG2
      refine ⟨_, _, hr, some w.heap.size, ⟨G, by simp, ?_⟩, .inr ⟨_, rfl, Nat.le_refl _⟩, (Fr.drew _ w).trans (Fr.alloc _ _ _)⟩
      have := newrow G hG1 hG2
      simpa [Value.cells] using this

set_option maxHeartbeats 4000000 in
set_option maxRecDepth 100000 in
theorem insert_end (β : Option Nat) (a : Option Addr) (n c vb : Nat) (x : El) (xs : List El) (w : World) (hc : n ≤ c) (hc63 : c ≤ 9223372036854775807) (hn : n ≤ 4096) (hx : Hid (xs.length = n)) (hS : Hid (SE w β (.slice a n c) xs))
    (hv : Hid (w.heap[vb]? = some (.cells (elc x).toArray 42 (0, 0)))) :
    Calls Tryz.prog 131 #[.slice a n c, .int .i64 n, .slice (some ⟨vb, 0, none⟩) 1 1] w fun e w' =>
      ∃ v, e = .returned v ∧ NowE w w' β v (xs ++ [x]) := by
  obtain ⟨v', W1, hr, hN⟩ := run_pushE w β _ xs hS.out vb x hv.out (by have := hx.out; omega)
  have R := hd hN
  clear hN
  by_cases hcn : c = n
  · subst hcn
    cases a with
    | none =>
      go_enter Tryz.func131, Tryz.ntmps131
      go_wp2_with (at_builtin; refine wpList_append_k _ rfl _ _ 70 70 rfl _ _ rfl rfl (hr _) ?_)
      go_ret
      exact ⟨_, rfl, R.out⟩
    | some a =>
      go_enter Tryz.func131, Tryz.ntmps131
      go_wp2_with (at_builtin; refine wpList_append_k _ rfl _ _ 70 70 rfl _ _ rfl rfl (hr _) ?_)
      go_ret
      exact ⟨_, rfl, R.out⟩
  · cases a with
    | none =>
      have : c = 0 ∧ n = 0 := by
        have h := hS.out
        cases β with
        | none =>
          have h1 := h.1
          simp at h1
          omega
        | some g =>
          obtain ⟨cap, h1, _⟩ := h
          simp at h1
      omega
    | some a =>
      go_enter Tryz.func131, Tryz.ntmps131
      go_wp2_with (at_builtin; refine wpList_append_k _ rfl _ _ 70 70 rfl _ _ rfl rfl (hr _) ?_)
      go_ret
      exact ⟨_, rfl, R.out⟩

theorem insert_any (β : Option Nat) (v : Value) (i vb : Nat) (x : El) (xs : List El) (w : World) (hS : SE w β v xs) (hi : i ≤ xs.length) (hn : xs.length < 4096)
    (hv : w.heap[vb]? = some (.cells (elc x).toArray 42 (0, 0))) (hvb : β ≠ some vb) :
    Calls Tryz.prog 131 #[v, .int .i64 i, .slice (some ⟨vb, 0, none⟩) 1 1] w fun e w' => ∃ v', e = .returned v' ∧ NowE w w' β v' (xs.take i ++ x :: xs.drop i) := by
  obtain ⟨a, c, rfl, hE, -⟩ := hS.form
  by_cases hin : i = xs.length
  · subst hin
    rw [List.take_of_length_le (Nat.le_refl _), List.drop_of_length_le (Nat.le_refl _)]
    exact insert_end β a xs.length c vb x xs w hE.2.1 hE.2.2.1 (by omega) rfl hS hv
  · cases β with
    | none =>
      obtain ⟨-, rfl⟩ := hS
      simp at hi hin
      omega
    | some g =>
      obtain ⟨cap, h1, hR⟩ := hS
      have h2 := Value.slice.inj h1
      obtain ⟨rfl, -, rfl⟩ := h2
      obtain ⟨cur, hh, htk, hvl, hnc, hcm, hcs⟩ := hR
      by_cases hroom : xs.length + 1 ≤ c
      · refine (insert_shift g vb xs.length c i x xs cur w (by omega) hroom hcm (fun h => hvb (by rw [h])) hh htk rfl hcs hv).mono ?_
        rintro e w' ⟨rfl, hh', hF⟩
        have hl : (xs.take i ++ x :: xs.drop i).length = xs.length + 1 := by simp; omega
        have hdl : (cE (xs.drop i)).length = (xs.length - i) * 3 := by rw [cE_len, List.length_drop]
        have hl1 : (splice cur ((i + 1) * 3) (cE (xs.drop i))).length = c * 3 := by rw [length_splice _ _ _ (by omega), hcs]
        refine ⟨_, rfl, some g, ⟨c, by rw [hl], _, hh', by rw [hl]; exact shift_take cur xs x i xs.length rfl (by omega) (by omega) htk, rfl, by omega, hcm, ?_⟩, .inl rfl, hF.mono (fun k _ h => by rw [h])⟩
        rw [length_splice _ _ _ (by rw [hl1]; simp [elc]; omega), hl1]
      · obtain rfl : c = xs.length := by omega
        refine (insert_grow g vb xs.length i x xs cur w (by omega) (by omega) hh htk rfl hv).mono ?_
        rintro e w' ⟨G, rfl, hR, hF⟩
        have hl : (xs.take i ++ x :: xs.drop i).length = xs.length + 1 := by simp; omega
        exact ⟨_, rfl, some w.heap.size, ⟨G, by rw [hl], by rw [hl]; exact hR⟩, .inr ⟨_, rfl, Nat.le_refl _⟩, hF.mono (fun k _ h => h.elim)⟩

end Go.Proofs.YtfhghijefjhehaaGreatDoor

/-! TDel -/
namespace Go.Proofs.YtfhghijefjhehaaGreatDoor
open Go.RowKit Go.Lib
set_option linter.unusedVariables false

def zc : List Value := [.int .u8 0, .int .i64 0, .int .i64 0]

theorem run_clear_one (w : World) (ty : TypeId) (g o cap : Nat) (cur : List Value) (hg : w.heap[g]? = some (.cells cur.toArray 42 (0, 0))) (hfit : o + 3 ≤ cur.length) :
    (Builtin.clear_ #[70] ty #[.slice (some ⟨g, o, none⟩) 1 cap]).run Tryz.prog w = .ok (.tuple #[]) (w.setRow g (splice cur o zc).toArray) := by
  obtain ⟨i0, hi0, hz0, hz1, hz2⟩ := info_parts Tryz.infoE
  have hz : (Builtin.zeroCells (Value.agg #[.int .u8 0, .int .i64 0, .int .i64 0]).cells 1).toList = zc := by kernel_rfl
  have hst := run_storeCells_at Tryz.prog g o 42 zc 0 cur.toArray w hg (by simpa [zc] using hfit) (by intro v hv; simp [zc] at hv; rcases hv with rfl | rfl <;> rfl)
  simp [Builtin.clear_, run_underlying Tryz.underlying70, zeroValue, typeInfo, hi0, hz0, hz, hst, splice]

theorem wpList_clear_k {P : Program} (w : World) {ops : Array Oper} {rest : List Oper} {o : Oper} {a : Act} {Q : Exit → Act → World → Prop} (hgd : o.guard = none) (d : Operand) (t : TypeId)
    (ho : o.op = .call { callee := .builtin .clear, args := #[d], argTypes := #[t] }) (v : Value) (hd' : a.eval d = v) {v' : Value} {w' : World}
    (hr : (Builtin.clear_ #[t] o.type #[v]).run P w = .ok v' w') (h : wpList P ops Q rest (a.put o.dst v') w') : wpList P ops Q (o :: rest) a w := by
  refine wpList_plain hgd fun K hK => ?_
  unfold Oper.wp
  simp [execOp, ho, resolve, invoke, builtin, hd', hr, Result.andThen]
  exact hK _ _ h

set_option maxHeartbeats 4000000 in
set_option maxRecDepth 100000 in
theorem delete_row (g m c i : Nat) (xs : List El) (cur : List Value) (w : World) (hi : i ≤ m) (hroom : m + 1 ≤ c) (hm : m ≤ 4096) (hc63 : c ≤ 9223372036854775807)
    (hg : Hid (w.heap[g]? = some (.cells cur.toArray 42 (0, 0)))) (ht : Hid (cur.take ((m + 1) * 3) = cE xs)) (hx : Hid (xs.length = m + 1)) (hcl : Hid (cur.length = c * 3)) :
    Calls Tryz.prog 132 #[.slice (some ⟨g, 0, none⟩) (m + 1) c, .int .i64 i, .int .i64 ((i : Int) + 1)] w fun e w' =>
      e = .returned (.slice (some ⟨g, 0, none⟩) m c) ∧ w'.heap[g]? = some (.cells (splice (splice cur (i * 3) (cE (xs.drop (i + 1)))) (m * 3) zc).toArray 42 (0, 0)) ∧ Fr (· = g) w w' := by
  obtain ⟨i0, hi0, hz0, hz1, hz2⟩ := info_parts Tryz.infoE
  have hdl : (cE (xs.drop (i + 1))).length = (m - i) * 3 := by rw [cE_len, List.length_drop, hx.out]; congr 1; omega
  have hgd : w.drew.heap[g]? = some (.cells cur.toArray 42 (0, 0)) := hg.out
  obtain ⟨W1, hW1⟩ : ∃ W1, W1 = w.drew.setRow g (splice cur (i * 3) (cE (xs.drop (i + 1)))).toArray := ⟨_, rfl⟩
  have hap : ∀ (A : Addr) ty, (c = i + 1 ∨ A = ⟨g, (i + 1) * 3, none⟩) → (Builtin.append_ #[70, 70] ty #[.slice (some ⟨g, 0, none⟩) i c, .slice (some A) (m - i) (c - (i + 1))]).run Tryz.prog w.drew = .ok (.slice (some ⟨g, 0, none⟩) m c) W1 := fun A ty hA => by
    have hsrc : ∀ j u, (cE (xs.drop (i + 1)))[j]? = some u → w.drew.cell? (A.add j) = some u := by
      rcases hA with hA | rfl
      · intro j u hj
        have : (cE (xs.drop (i + 1))).length = 0 := by rw [hdl]; omega
        rw [List.length_eq_zero_iff.1 this] at hj
        simp at hj
      · exact row_cells hgd ht.out hx.out (i + 1) (by omega)
    have hr := run_append_room (P := Tryz.prog) w.drew 70 ty 42 i0 Tryz.underlying70 hi0 g i c cur.toArray hgd A (m - i) (c - (i + 1)) (cE (xs.drop (i + 1))) (by rw [hz1, hdl]) hsrc (cE_one' _) (by omega) (by rw [hz1, hdl]; simp [hcl.out]; omega)
    rw [show i + (m - i) = m by omega, hz1] at hr
    rw [hW1]
    simpa [splice] using hr
  have hg1 : W1.heap[g]? = some (.cells (splice cur (i * 3) (cE (xs.drop (i + 1)))).toArray 42 (0, 0)) := by rw [hW1]; exact setRow_heap w.drew g _ _ 42 _ hgd
  have hl1 : (splice cur (i * 3) (cE (xs.drop (i + 1)))).length = c * 3 := by rw [length_splice _ _ _ (by rw [hdl, hcl.out]; omega), hcl.out]
  have F1 : Fr (· = g) w W1 := by rw [hW1]; exact (Fr.drew _ w).trans (Fr.setRow _ _ _ rfl)
  have hcr : ∀ ty dc, (Builtin.clear_ #[70] ty #[.slice (some ⟨g, m * 3, none⟩) 1 dc]).run Tryz.prog W1 = .ok (.tuple #[]) (W1.setRow g (splice (splice cur (i * 3) (cE (xs.drop (i + 1)))) (m * 3) zc).toArray) := fun ty dc =>
    run_clear_one W1 ty g (m * 3) dc _ hg1 (by rw [hl1]; omega)
  obtain ⟨W2, hW2⟩ : ∃ W2, W2 = W1.setRow g (splice (splice cur (i * 3) (cE (xs.drop (i + 1)))) (m * 3) zc).toArray := ⟨_, rfl⟩
  rw [← hW2] at hcr
  have R : Hid (W2.heap[g]? = some (.cells (splice (splice cur (i * 3) (cE (xs.drop (i + 1)))) (m * 3) zc).toArray 42 (0, 0)) ∧ Fr (· = g) w W2) := by
    rw [hW2]
    exact ⟨setRow_heap W1 g _ _ 42 _ hg1, F1.trans (Fr.setRow _ _ _ rfl)⟩
  clear hW1 hg1 hl1 F1 hW2 hgd hdl hi0 hz0 hz1 hz2
  have hw1 : IntKind.i64.wrap ((i : Int) + 1) = (i : Int) + 1 := by rw [IntKind.wrap_i64]; omega
  have hb1 : (0 : Int) ≤ (i : Int) + 1 := by omega
  have htn : ((i : Int) + 1).toNat = i + 1 := by omega
  have hb3 : (i : Int) ≤ (i : Int) + 1 := by omega
  have hb4 : (i : Int) + 1 ≤ (m : Int) + 1 := by omega
  have hb5 : ¬ (c = i) := by omega
  have hb6 : i ≤ c := by omega
  have hb7 : i + 1 ≤ c := by omega
  have hb8 : ¬ (c = m) := by omega
  go_enter Tryz.func132, Tryz.ntmps132
  go_wp2_with fail
  by_cases hcj : c = i + 1
  · subst hcj
    have hap0 : ∀ ty, (Builtin.append_ #[70, 70] ty #[.slice (some ⟨g, 0, none⟩) i (i + 1), .slice (some ⟨g, 0, none⟩) 0 0]).run Tryz.prog w.drew = .ok (.slice (some ⟨g, 0, none⟩) m (i + 1)) W1 := fun ty => by
      have h := hap ⟨g, 0, none⟩ ty (.inl rfl)
      rwa [Nat.sub_self, show m - i = 0 by omega] at h
    clear hap
    go_region_law (refine step_append_k rfl (.tmp 22) (.tmp 25) 70 70 rfl (.slice (some ⟨g, 0, none⟩) i (i + 1)) (.slice (some ⟨g, 0, none⟩) 0 0) (by simp [Act.eval, Act.put]) (by simp [Act.eval, Act.put]) (hap0 _) ?_)
    go_wp2_with (at_builtin; refine wpList_clear_k _ rfl _ 70 rfl _ rfl (hcr _ _) ?_)
    go_ret
    exact ⟨rfl, R.out⟩
  · go_region_law (refine step_append_k rfl (.tmp 22) (.tmp 25) 70 70 rfl (.slice (some ⟨g, 0, none⟩) i c) (.slice (some ⟨g, (i + 1) * 3, none⟩) (m - i) (c - (i + 1))) (by simp [Act.eval, Act.put]) (by simp [Act.eval, Act.put]) (hap ⟨g, (i + 1) * 3, none⟩ _ (.inr rfl)) ?_)
    go_wp2_with (at_builtin; refine wpList_clear_k _ rfl _ 70 rfl _ rfl (hcr _ _) ?_)
    go_ret
    exact ⟨rfl, R.out⟩

theorem delete_any (β : Option Nat) (v : Value) (i : Nat) (xs : List El) (w : World) (hS : SE w β v xs) (hi : i < xs.length) (hn : xs.length ≤ 4096) :
    Calls Tryz.prog 132 #[v, .int .i64 i, .int .i64 ((i : Int) + 1)] w fun e w' => ∃ v', e = .returned v' ∧ NowE w w' β v' (xs.take i ++ xs.drop (i + 1)) := by
  cases β with
  | none =>
    obtain ⟨-, rfl⟩ := hS
    simp at hi
  | some g =>
    obtain ⟨c, rfl, cur, hh, htk, hvl, hnc, hcm, hcs⟩ := hS
    obtain ⟨m, hm⟩ : ∃ m, xs.length = m + 1 := ⟨xs.length - 1, by omega⟩
    rw [hm] at htk hnc hi ⊢
    refine (delete_row g m c i xs cur w (by omega) hnc (by omega) hcm hh htk hm hcs).mono ?_
    rintro e w' ⟨rfl, hh', hF⟩
    have hl : (xs.take i ++ xs.drop (i + 1)).length = m := by simp; omega
    have hdl : (cE (xs.drop (i + 1))).length = (m - i) * 3 := by rw [cE_len, List.length_drop, hm]; congr 1; omega
    have hl1 : (splice cur (i * 3) (cE (xs.drop (i + 1)))).length = c * 3 := by rw [length_splice _ _ _ (by omega), hcs]
    refine ⟨_, rfl, some g, ⟨c, by rw [hl], _, hh', ?_, rfl, by omega, hcm, ?_⟩, .inl rfl, hF.mono (fun k _ h => by rw [h])⟩
    · rw [hl]
      have := unshift_take cur xs zc i (m + 1) hm hi (by omega) htk
      simpa using this
    · rw [length_splice _ _ _ (by rw [hl1]; simp [zc]; omega), hl1]

end Go.Proofs.YtfhghijefjhehaaGreatDoor
