/-
  The laws' copies: new rows that are filled.
-/
import Derived.Test.YtfhghijefjhehaaDoorIl
import Derived.Laws.MakeOwn
namespace Go.Proofs.YtfhghijefjhehaaDoor
open Go.RowKit Go.Lib
set_option linter.unusedVariables false

/-- Cells stored one behind the other. -/
def setsL (w : World) (g o : Nat) : List Value → World
  | [] => w
  | v :: vs => setsL (w.setCell ⟨g, o, none⟩ v) g (o + 1) vs
theorem setsL_row {g : Nat} {e : TypeId} : ∀ (vs : List Value) (w : World) (o : Nat) (cur : List Value), w.heap[g]? = some (.cells cur.toArray e (0, 0)) → o + vs.length ≤ cur.length →
    (∃ cur' : List Value, (setsL w g o vs).heap[g]? = some (.cells cur'.toArray e (0, 0)) ∧ cur'.length = cur.length ∧ (∀ j, j < vs.length → cur'[o + j]? = vs[j]?) ∧ ∀ m, (m < o ∨ o + vs.length ≤ m) → cur'[m]? = cur[m]?) ∧ Fr (fun k => k = g) w (setsL w g o vs)
  | [], w, o, cur, h, _ => ⟨⟨cur, h, rfl, fun j hj => by simp at hj, fun m _ => rfl⟩, Fr.refl _ _⟩
  | v :: vs, w, o, cur, h, hl => by
    have h1 : (w.setCell ⟨g, o, none⟩ v).heap[g]? = some (.cells (cur.set o v).toArray e (0, 0)) := by
      rw [set_row h o v]
      simp
    simp only [List.length_cons] at hl
    obtain ⟨⟨cur', a1, a2, a3, a4⟩, a5⟩ := setsL_row vs (w.setCell ⟨g, o, none⟩ v) (o + 1) (cur.set o v) h1 (by rw [List.length_set]; omega)
    refine ⟨⟨cur', a1, by rw [a2, List.length_set], fun j hj => ?_, fun m hm => ?_⟩, (Fr.setCell (S := fun k => k = g) w ⟨g, o, none⟩ v rfl).trans a5⟩
    · cases j with
      | zero =>
        rw [Nat.add_zero, a4 o (.inl (by omega)), List.getElem?_set_self (by omega)]
        rfl
      | succ j =>
        have := a3 j (by simp at hj; omega)
        rw [show o + (j + 1) = o + 1 + j from by omega, this]
        rfl
    · simp only [List.length_cons] at hm
      rw [a4 m (by omega), List.getElem?_set_ne (by omega)]

/-- A row of n elements at block g, the first i of them those of xs. -/
def FillC {α : Type} (f : α → List Value) (k : Nat) (e : TypeId) (w3 wr : World) (g n : Nat) (xs : List α) (i : Nat) : Prop :=
  (∃ cur : List Value, wr.heap[g]? = some (.cells cur.toArray e (0, 0)) ∧ cur.length = n * k ∧ ∀ q (hq : q < xs.length), q < i → ∀ j, j < k → cur[q * k + j]? = (f xs[q])[j]?) ∧ Fr (fun k => k = g) w3 wr
section
variable {α : Type} {f : α → List Value} {k : Nat} {e : TypeId} {w3 wr : World} {g n : Nat} {xs : List α} {i : Nat}
theorem FillC.cells (h : FillC f k e w3 wr g n xs i) (hi : i < n) (j : Nat) (hj : j < k) : (∃ v, wr.cell? ⟨g, i * k + j, none⟩ = some v) ∧ wr.frozen? ⟨g, i * k + j, none⟩ = false := by
  obtain ⟨⟨cur, h1, h2, -⟩, -⟩ := h
  have : (i + 1) * k ≤ n * k := Nat.mul_le_mul_right _ (by omega)
  rw [Nat.add_mul] at this
  refine ⟨?_, frozen_row h1 _⟩
  rw [cell_row h1]
  exact ⟨cur[i * k + j]'(by omega), by simp⟩
theorem FillC.step (hz : Sz f k) (h : FillC f k e w3 wr g n xs i) (hi : i < n) (hx : i < xs.length) : FillC f k e w3 (setsL wr g (i * k) (f xs[i])) g n xs (i + 1) := by
  obtain ⟨⟨cur, h1, h2, h3⟩, h4⟩ := h
  have hlen : (i + 1) * k ≤ n * k := Nat.mul_le_mul_right _ (by omega)
  rw [Nat.add_mul, Nat.one_mul] at hlen
  have hfl := (hz xs[i]).1
  obtain ⟨⟨cur', a1, a2, a3, a4⟩, a5⟩ := setsL_row (f xs[i]) wr (i * k) cur h1 (by rw [hfl]; omega)
  refine ⟨⟨cur', a1, by rw [a2]; exact h2, fun q hq hqi j hj => ?_⟩, h4.trans a5⟩
  by_cases e : q = i
  · subst e
    exact a3 j (by rw [hfl]; exact hj)
  · have hq1 : (q + 1) * k ≤ i * k := Nat.mul_le_mul_right _ (by omega)
    rw [Nat.add_mul, Nat.one_mul] at hq1
    rw [a4 _ (.inl (by omega))]
    exact h3 q hq (by omega) j hj
theorem FillC.get (h : FillC f k e w3 wr g n xs i) (q j : Nat) (hq : q < xs.length) (hqi : q < i) (hj : j < k) : wr.cell? ⟨g, q * k + j, none⟩ = (f xs[q])[j]? := by
  obtain ⟨⟨cur, h1, h2, h3⟩, -⟩ := h
  rw [cell_row h1, ← h3 q hq hqi j hj]
  simp
theorem FillC.mono (h : FillC f k e w3 wr g n xs i) {u : World} {S : Nat → Prop} (hF : Fr S wr u) (hS : ¬ S g) (w3' : World) : FillC f k e u u g n xs i := by
  obtain ⟨⟨cur, h1, h2, h3⟩, -⟩ := h
  exact ⟨⟨cur, hF.keeps h1 hS, h2, h3⟩, Fr.refl _ _⟩
end

def elc (x : El) : List Value := [.int .u8 x.1, .int .i64 x.2.1, .int .i64 x.2.2]
theorem szEl : Sz elc 3 := fun x => ⟨rfl, fun v hv => by
  simp only [elc, List.mem_cons, List.not_mem_nil, or_false] at hv
  rcases hv with rfl | rfl | rfl <;> rfl⟩
def edc (x : Ed) : List Value := [.int .i64 x.tag, .int .i64 x.o.kind, .int .i64 x.o.pos, .int .u8 x.o.ch, .int .i64 x.o.cl, .int .i64 x.o.sq]
theorem szEd : Sz edc 6 := fun x => ⟨rfl, fun v hv => by
  simp only [edc, List.mem_cons, List.not_mem_nil, or_false] at hv
  rcases hv with rfl | rfl | rfl | rfl | rfl | rfl <;> rfl⟩

/-- A text in memory. -/
def IsT (w : World) (a : Option Addr) (xs : List El) : Prop := 0 < xs.length → ∃ b off, a = some ⟨b, off, none⟩ ∧ b < w.heap.size ∧ ∀ q (hq : q < xs.length), w.cell? ⟨b, off + q * 3, none⟩ = some (.int .u8 xs[q].1) ∧ w.cell? ⟨b, off + q * 3 + 1, none⟩ = some (.int .i64 xs[q].2.1) ∧ w.cell? ⟨b, off + q * 3 + 2, none⟩ = some (.int .i64 xs[q].2.2)

theorem wpList_make_k {P : Program} (w : World) {ops : Array Oper} {rest : List Oper} {o : Oper} {a : Act} {Q : Exit → Act → World → Prop}
    (hg : o.guard = none) (l c : Operand) (t : TypeId) (hop : o.op = Op.makeSlice t l c)
    (e : TypeId) (i : TypeInfo) (z : Value) (h1 : P.underlying t = some (.slice e)) (h2 : P.info? e = some i) (h3 : i.zero = some z)
    (kl kc : IntKind) (L C : Int) (n m : Nat) (hl : a.eval l = .int kl L) (hc : a.eval c = .int kc C) (hL : L = (n : Int)) (hC : C = (m : Int)) (hnm : n ≤ m) (b2 : i.bytes * m ≤ 281474976710656) (b3 : m ≤ 9223372036854775807)
    (hK : ∀ (w' : World) (cur : List Value), Hid (w'.heap[w.heap.size]? = some (.cells cur.toArray e (0, 0))) → Hid (cur = (madeCells z.cells (m * i.size)).toList) → Hid (Below w.heap.size w w') → wpList P ops Q rest (a.put o.dst (.slice (some ⟨w.heap.size, 0, none⟩) n m)) w') :
    wpList P ops Q (o :: rest) a w := by
  refine wpList_plain hg fun K hK' => ?_
  subst hL
  subst hC
  have hrun := run_make (P := P) w t e i z h1 h2 h3 kl kc n m (by omega) (by omega) (by rw [← Int.natCast_mul]; exact Int.ofNat_le.2 b2) (by omega)
  simp only [Int.toNat_natCast] at hrun
  unfold Oper.wp
  simp [execOp, hop, hl, hc, hrun, Result.andThen]
  refine hK' _ _ (hK _ _ ?_ (rfl : _ = _) ((Below.refl _ _).alloc (Nat.le_refl _) _))
  show (w.alloc _).heap[w.heap.size]? = _
  rw [heap_alloc_new]

theorem Tryd.infoEl : (Tryd.prog.info? 64).map (fun i => (i.zero, i.size, i.bytes)) = some (some (.agg #[.int .u8 0, .int .i64 0, .int .i64 0]), 3, 24) := by kernel_rfl
theorem madeCells_len (z : Array Value) (m : Nat) (hz : 0 < z.size) : (madeCells z m).toList.length = m := by simp [madeCells]

set_option maxRecDepth 100000 in
set_option maxHeartbeats 4000000 in
theorem copiedDoc_any (a : Option Addr) (n c : Nat) (xs : List El) (w : World) (hl : xs.length = n) (hn : n ≤ 11728124029610) (hT : IsT w a xs) :
    Calls Tryd.prog 13 #[.slice a n c] w fun e w' => ∃ g, e = .returned (.slice (some ⟨g, 0, none⟩) n n) ∧ w.heap.size ≤ g ∧ (∀ q (hq : q < xs.length), w'.cell? ⟨g, q * 3, none⟩ = some (.int .u8 xs[q].1) ∧ w'.cell? ⟨g, q * 3 + 1, none⟩ = some (.int .i64 xs[q].2.1) ∧ w'.cell? ⟨g, q * 3 + 2, none⟩ = some (.int .i64 xs[q].2.2)) ∧ g < w'.heap.size ∧ Below w.heap.size w w' := by
  obtain ⟨i0, hi0, hz0, hz1, hz2⟩ : ∃ i0, Tryd.prog.info? 64 = some i0 ∧ i0.zero = some (.agg #[.int .u8 0, .int .i64 0, .int .i64 0]) ∧ i0.size = 3 ∧ i0.bytes = 24 := by
    cases hq : Tryd.prog.info? 64 with
    | none => have := Tryd.infoEl; rw [hq] at this; cases this
    | some i =>
      have h := Tryd.infoEl
      rw [hq] at h
      simp only [Option.map_some, Option.some.injEq, Prod.mk.injEq] at h
      exact ⟨i, rfl, h.1, h.2.1, h.2.2⟩
  have HT := hd hT
  have HL := hd hl
  clear hT
  go_enter Tryd.func13, Tryd.ntmps13
  go_wp2_with (at_make; refine wpList_make_k _ rfl _ _ 35 rfl 64 i0 _ Tryd.underlying35 hi0 hz0 _ _ _ _ n n rfl rfl rfl rfl (Nat.le_refl _) (by rw [hz2]; omega) (by omega) ?_; intro w3 cur hg3 hcur hb3)
  have S0 : Hid (FillC elc 3 64 w3 w3 w.heap.size n xs 0) := ⟨⟨cur, hg3.out, by have := hcur.out; rw [hz1] at this; rw [this, madeCells_len _ _ (by decide)], fun q hq h => by omega⟩, Fr.refl _ _⟩
  have B3 := hd hb3.out
  clear hg3 hcur hb3 hi0 hz0 hz1 hz2 hl
  go_wp2_with fail
  go_loopw [4] (fun i wr => ∃ k : Nat, k ≤ n ∧ i = .int .i64 k ∧ Hid (FillC elc 3 64 w3 wr w.heap.size n xs k)) (fun i _ => n - (intOf i).toNat)
  case atStart => exact ⟨0, Nat.zero_le _, rfl, S0⟩
  case round =>
    obtain ⟨k, hk, rfl, hr⟩ := hrel
    clear S0
    have BR := hd (B3.out.trans (hr.out.2.below B3.out.size (fun q hq => by omega)))
    by_cases hlt : k < n
    · have hx : k < xs.length := by have := HL.out; omega
      obtain ⟨b, off, rfl, hb, hc⟩ := HT.out (by omega)
      obtain ⟨c0, c1, c2⟩ := hc k hx
      have c0 := (BR.out.cell (p := ⟨b, off + k * 3, none⟩) hb).trans c0
      have c1 := (BR.out.cell (p := ⟨b, off + k * 3 + 1, none⟩) hb).trans c1
      have c2 := (BR.out.cell (p := ⟨b, off + k * 3 + 2, none⟩) hb).trans c2
      obtain ⟨⟨v0, d0⟩, f0⟩ := hr.out.cells hlt 0 (by omega)
      obtain ⟨⟨v1, d1⟩, f1⟩ := hr.out.cells hlt 1 (by omega)
      obtain ⟨⟨v2, d2⟩, f2⟩ := hr.out.cells hlt 2 (by omega)
      rw [Nat.add_zero] at d0 f0
      have i1 : (k : Int) < (n : Int) := by omega
      have ST : Hid (FillC elc 3 64 w3 (((wr.setCell ⟨w.heap.size, k * 3, none⟩ (.int .u8 xs[k].1)).setCell ⟨w.heap.size, k * 3 + 1, none⟩ (.int .i64 xs[k].2.1)).setCell ⟨w.heap.size, k * 3 + 2, none⟩ (.int .i64 xs[k].2.2)) w.heap.size n xs (k + 1)) := FillC.step szEl hr.out hlt hx
      have E3 : wrap64 ((k : Int) + 1) = ((k + 1 : Nat) : Int) := by rw [wrap64]; omega
      generalize xs[k] = y at *
      clear hr hc hx BR
      go_wp2
      first
        | exact ⟨⟨k + 1, by omega, by rw [E3], ST⟩, by rw [E3]; simp only [intOf, Int.toNat_natCast]; omega⟩
        | exact ⟨⟨k + 1, by omega, by go_num, ST⟩, by simp [intOf]; omega⟩
    · obtain rfl : k = n := by omega
      have R : Hid (∀ q (hq : q < xs.length), wr.cell? ⟨w.heap.size, q * 3, none⟩ = some (.int .u8 xs[q].1) ∧ wr.cell? ⟨w.heap.size, q * 3 + 1, none⟩ = some (.int .i64 xs[q].2.1) ∧ wr.cell? ⟨w.heap.size, q * 3 + 2, none⟩ = some (.int .i64 xs[q].2.2)) := fun q hq => by
        have hl := HL.out
        exact ⟨hr.out.get q 0 hq (by omega) (by omega), hr.out.get q 1 hq (by omega) (by omega), hr.out.get q 2 hq (by omega) (by omega)⟩
      have G : Hid (w.heap.size < wr.heap.size) := by
        obtain ⟨⟨cur, h1, -⟩, -⟩ := hr.out
        exact block_lt h1
      clear hr
      go_wp2
      go_ret
      exact ⟨_, rfl, Nat.le_refl _, R.out, G.out, BR.out⟩

/-- Quiet operations have put V j into their slots, those of sp a value with R; N stores. -/
structure JN (ops : Array Oper) (σ : Nat → Nat) (N : Nat) (sp : Nat → Bool) (V : Nat → Value) (R : Nat → Value → World → Prop) (ka : Nat) (T : Value → World → Prop) (a0 : Act) (w : World) (L : Nat → Prop) (a : Act) (u : World) : Prop where
  fe : Fe a0 a ((List.range N).map σ)
  e : ∀ j, j < N → sp j = false → L j → a.eval (.tmp (σ j)) = V j
  r : ∀ j, j < N → sp j = true → L j → ¬ L N → R j (a.eval (.tmp (σ j))) u
  dc : Dc ops L
  n : ¬ L N → Below w.heap.size w u
  s : L N → T (a.eval (.tmp (σ ka))) u
section
variable {ops : Array Oper} {σ : Nat → Nat} {N : Nat} {sp : Nat → Bool} {V : Nat → Value} {R : Nat → Value → World → Prop} {ka : Nat} {T : Value → World → Prop} {a0 : Act} {w : World} {L L' : Nat → Prop} {a : Act} {u u' : World} {i : Nat} {o : Oper}
theorem JN.next (h : JN ops σ N sp V R ka T a0 w L a u) (ho : ops[i]? = some o) (hall : ∀ e ∈ o.after, Region.binds .any e = true → L e.on) (hi : i < N) (hno : ¬ L i) (hinj : ∀ i j, i < N → j < N → σ i = σ j → i = j) (hz : ∀ j, j < N → σ j < a0.tmps.size) (hu : ∀ j, L' j ↔ (j = i ∨ L j)) (a2 : anc ops 40 N i = true) (hR : ∀ j v u', R j v u → Below u.heap.size u u' → R j v u') {v : Value} (hB : Below u.heap.size u u')
    (hv : (sp i = false ∧ v = V i) ∨ (sp i = true ∧ R i v u')) : JN ops σ N sp V R ka T a0 w L' (a.put (some (σ i)) v) u' := by
  have nN : ¬ L N := fun hl => hno (anc_spec h.dc _ _ _ a2 hl)
  have lN : L' N ↔ L N := by rw [hu]; exact ⟨fun h => h.resolve_left (by omega), .inr⟩
  refine ⟨h.fe.put (List.mem_map.2 ⟨i, List.mem_range.2 hi, rfl⟩) _, fun j hj hs hl => ?_, fun j hj hs hl _ => ?_, h.dc.next ho hall hu, fun _ => (h.n nN).trans (hB.mono (h.n nN).size), fun hl => absurd (lN.1 hl) nN⟩
  · by_cases e : j = i
    · subst e
      rw [ev_eq _ _ (by rw [h.fe.sz]; exact hz j hj)]
      rcases hv with hv | hv
      · exact hv.2
      · rw [hs] at hv; cases hv.1
    · exact (ev_ne _ _ (fun he => e (hinj j i hj hi he))).trans (h.e j hj hs (((hu j).1 hl).resolve_left e))
  · by_cases e : j = i
    · subst e
      rw [ev_eq _ _ (by rw [h.fe.sz]; exact hz j hj)]
      rcases hv with hv | hv
      · rw [hs] at hv; cases hv.1
      · exact hv.2
    · rw [ev_ne _ _ (fun he => e (hinj j i hj hi he))]
      exact hR _ _ _ (h.r j hj hs (((hu j).1 hl).resolve_left e) nN) hB
theorem JN.store (h : JN ops σ N sp V R ka T a0 w L a u) (ho : ops[N]? = some o) (hall : ∀ e ∈ o.after, Region.binds .any e = true → L e.on) (hno : ¬ L N) (hu : ∀ j, L' j ↔ (j = N ∨ L j)) (hT : T (a.eval (.tmp (σ ka))) u') : JN ops σ N sp V R ka T a0 w L' a u' := by
  have lN : L' N := (hu N).2 (.inl rfl)
  exact ⟨h.fe, fun j hj hs hl => h.e j hj hs (((hu j).1 hl).resolve_left (by omega)), fun _ _ _ _ hn => absurd lN hn, h.dc.next ho hall hu, fun hn => absurd lN hn, fun _ => hT⟩
theorem JN.done (h : JN ops σ N sp V R ka T a0 w L a u) (hz : ∀ j, j < N → σ j < a0.tmps.size) (hN : L N) : ∃ (V' : Nat → Value), T (V' ka) u ∧ a = puts a0 ((List.range N).map fun j => (σ j, V' j)) := by
  refine ⟨fun j => a.eval (.tmp (σ j)), h.s hN, ?_⟩
  refine Fe.puts _ a0 a (by rw [List.map_map]; exact h.fe) (fun p hp => ?_)
  obtain ⟨j, hj, rfl⟩ := List.mem_map.1 hp
  exact ⟨hz j (List.mem_range.1 hj), rfl⟩
theorem JN.start (hdr : Below w.heap.size w w.drew) (hL : ∀ i, ¬ L i) : JN ops σ N sp V R ka T a0 w L a0 w.drew :=
  ⟨Fe.refl _ _, fun j _ _ h => absurd h (hL _), fun j _ _ h => absurd h (hL _), fun j o _ hl => absurd hl (hL _), fun _ => hdr, fun h => absurd h (hL _)⟩
end

end Go.Proofs.YtfhghijefjhehaaDoor
