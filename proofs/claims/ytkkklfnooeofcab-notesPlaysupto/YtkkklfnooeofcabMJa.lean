/-
  Texts put together: Ja Jb.
-/
import Derived.Test.YtkkklfnooeofcabMLa
import Derived.Test.YtkkklfnooeofcabMWa
import Derived.Laws.StructEq
/-! Ja -/
namespace Go.Proofs.Ytkkklfnooeofcab
open Go.RowKit Go.Lib
set_option linter.unusedVariables false

/-- A note of the document's, and its two lists. -/
structure RN where
  n : Nt
  ea : Option Addr
  en : Nat
  ec : Nat
  sa : Option Addr
  sn : Nat
  sc : Nat
  ε : Option Nat
  ρ : Option Nat
def rnc (p : RN) : List Value := [.int .i64 p.n.id, .slice p.ea p.en p.ec, .int .i64 p.n.cl, .string p.n.wo, .bool p.n.sh, .slice p.sa p.sn p.sc]
theorem sz_rnc : Sz rnc 6 := fun x => ⟨rfl, fun v hv => by simp [rnc] at hv; rcases hv with rfl | rfl | rfl | rfl | rfl | rfl <;> rfl⟩
structure RK (w : World) (p : RN) : Prop where
  el : SF elc 3 w 41 p.ε (.slice p.ea p.en p.ec) p.n.el
  sd : SF rpc 2 w 90 p.ρ (.slice p.sa p.sn p.sc) p.n.sd
  wf : ∀ x ∈ p.n.el, wfE x
theorem RK.fr {S : Nat → Prop} {w w' : World} {p : RN} (h : RK w p) (hF : Fr S w w') (h1 : ∀ k, p.ε = some k → ¬ S k) (h2 : ∀ k, p.ρ = some k → ¬ S k) : RK w' p :=
  ⟨h.el.fr hF h1, h.sd.fr hF h2, h.wf⟩
/-- The document's board at block r, its list's row at β; O: its blocks. -/
structure RBK (w : World) (O : Nat → Prop) (r g : Nat) (β : Option Nat) (v : Value) (ps : List RN) : Prop where
  box : w.heap[r]? = some (.cells #[v, .int .i64 g] 56 (0, 0))
  row : SF rnc 6 w 93 β v ps
  rk : ∀ p ∈ ps, RK w p
  dis : ps.Pairwise (fun p q => ∀ k, p.ρ = some k → q.ρ ≠ some k)
  orr : O r
  ob : ∀ k, β = some k → O k
  on : ∀ p ∈ ps, (∀ k, p.ε = some k → O k) ∧ (∀ k, p.ρ = some k → O k)
  old : ∀ k, O k → k < w.heap.size
  ids : ps.Pairwise (fun p q => p.n.id < q.n.id)
  bd : ∀ p ∈ ps, 1 ≤ p.n.id ∧ p.n.id ≤ g
  le : g ≤ 256
def RBD (w : World) (O : Nat → Prop) (r g : Nat) (Ns : List Nt) : Prop := ∃ β v ps, Ns = ps.map RN.n ∧ RBK w O r g β v ps
theorem RBK.fr {S O : Nat → Prop} {w w' : World} {r g : Nat} {β : Option Nat} {v : Value} {ps : List RN} (h : RBK w O r g β v ps) (hF : Fr S w w') (hS : ∀ k, O k → ¬ S k) : RBK w' O r g β v ps :=
  ⟨hF.keeps h.box (hS _ h.orr), h.row.fr hF (fun k hk => hS _ (h.ob k hk)), fun p hp => (h.rk p hp).fr hF (fun k hk => hS _ ((h.on p hp).1 k hk)) (fun k hk => hS _ ((h.on p hp).2 k hk)), h.dis, h.orr, h.ob, h.on, fun k hk => Nat.lt_of_lt_of_le (h.old k hk) hF.size, h.ids, h.bd, h.le⟩
theorem RBD.fr {S O : Nat → Prop} {w w' : World} {r g : Nat} {Ns : List Nt} (h : RBD w O r g Ns) (hF : Fr S w w') (hS : ∀ k, O k → ¬ S k) : RBD w' O r g Ns := by
  obtain ⟨β, v, ps, e, h⟩ := h
  exact ⟨β, v, ps, e, h.fr hF hS⟩
theorem RBD.below {O : Nat → Prop} {w w' : World} {r g : Nat} {Ns : List Nt} (h : RBD w O r g Ns) (hb : Below w.heap.size w w') : RBD w' O r g Ns := h.fr (S := fun _ => False) (Fr.of_below hb) (fun _ _ h => h)
theorem RBD.old {O : Nat → Prop} {w : World} {r g : Nat} {Ns : List Nt} (h : RBD w O r g Ns) : ∀ k, O k → k < w.heap.size := by
  obtain ⟨β, v, ps, e, h⟩ := h
  exact h.old
/-- What a call leaves of it. -/
def NowR (w w' : World) (O : Nat → Prop) (r g : Nat) (Ns : List Nt) : Prop := ∃ O', RBD w' O' r g Ns ∧ (∀ k, O' k → O k ∨ w.heap.size ≤ k) ∧ Fr O w w'
section
variable {w : World} {O : Nat → Prop} {r g : Nat} {β : Option Nat} {v : Value} {ps : List RN}
theorem RBK.len (h : RBK w O r g β v ps) : ∃ a c, v = .slice a ps.length c ∧ w.cell? ⟨r, 0, none⟩ = some (.slice a ps.length c) ∧ w.cell? ⟨r, 1, none⟩ = some (.int .i64 g) ∧ ps.length ≤ c ∧ c ≤ 9223372036854775807 ∧ r < w.heap.size := by
  obtain ⟨a, c, hv, h1, h2⟩ := h.row.form
  subst hv
  exact ⟨a, c, rfl, by rw [cell_row h.box]; rfl, by rw [cell_row h.box]; rfl, h1, h2, block_lt h.box⟩
theorem RBK.at (h : RBK w O r g β v ps) (i : Nat) (hi : i < ps.length) : ∃ b c, β = some b ∧ v = .slice (some ⟨b, 0, none⟩) ps.length c ∧ ∀ j u, j < 6 → (rnc ps[i])[j]? = some u → w.cell? ⟨b, i * 6 + j, none⟩ = some u := by
  have hr := h.row
  cases β with
  | none =>
    obtain ⟨-, h2⟩ := hr
    subst h2
    simp at hi
  | some b =>
    obtain ⟨cap, hv, hR⟩ := hr
    exact ⟨b, cap, rfl, hv, fun j u hj hu => (hR.cell sz_rnc i j hi hj).trans hu⟩
theorem RBK.lele (h : RBK w O r g β v ps) : ps.length ≤ 256 := by
  have h1 : ∀ (l : List RN) (lo : Nat), l.Pairwise (fun p q => p.n.id < q.n.id) → (∀ p ∈ l, lo < p.n.id ∧ p.n.id ≤ g) → l.length ≤ g - lo := by
    intro l
    induction l with
    | nil => intro lo _ _; simp
    | cons p l ih =>
      intro lo hp hb
      obtain ⟨q1, q2⟩ := List.pairwise_cons.1 hp
      have h0 := hb p List.mem_cons_self
      have := ih p.n.id q2 (fun q hq => ⟨q1 q hq, (hb q (List.mem_cons_of_mem _ hq)).2⟩)
      rw [List.length_cons]
      omega
  have := h1 ps 0 h.ids (fun p hp => ⟨by have := h.bd p hp; omega, (h.bd p hp).2⟩)
  have := h.le
  omega
end

set_option maxRecDepth 100000 in
theorem rnew_any (w : World) : Calls Try.prog 6 #[] w fun e w' => ∃ r O, e = .returned (.pointer (some ⟨r, 0, none⟩)) ∧ RBD w' O r 0 [] ∧ (∀ k, O k → w.heap.size ≤ k) ∧ Below w.heap.size w w' := by
  have Z : Hid (RBD (w.alloc (.cells #[.slice none 0 0, .int .i64 0] 56)) (fun k => k = w.heap.size) w.heap.size 0 [] ∧ Below w.heap.size w (w.alloc (.cells #[.slice none 0 0, .int .i64 0] 56))) :=
    ⟨⟨none, _, [], rfl, ⟨heap_alloc_new _ _, ⟨rfl, rfl⟩, fun p hp => by simp at hp, List.Pairwise.nil, rfl, fun k hk => (by cases hk), fun p hp => by simp at hp, fun k hk => by subst hk; simp, List.Pairwise.nil, fun p hp => by simp at hp, by omega⟩⟩, (Below.refl _ _).alloc (Nat.le_refl _) _⟩
  go_enter Try.func6, Try.ntmps6
  go_wp2
  go_ret
  exact ⟨_, _, rfl, Z.out.1, fun k hk => by omega, Z.out.2⟩

set_option maxRecDepth 100000 in
set_option maxHeartbeats 4000000 in
theorem rfind_none (O : Nat → Prop) (r g : Nat) (Ns : List Nt) (k : Int) (w : World) (h : RBD w O r g Ns) (hn : ∀ n ∈ Ns, (n.id : Int) ≠ k) :
    Calls Try.prog 39 #[.pointer (some ⟨r, 0, none⟩), .int .i64 k] w fun e w' => e = .returned (.int .i64 (-1)) ∧ w' = w := by
  obtain ⟨β, v, ps, rfl, hK⟩ := h
  obtain ⟨a, c, hv, c0, -, hc1, hc2, hr⟩ := hK.len
  have hl := hK.lele
  have HA := hd (fun i hi => hK.at i hi)
  have HNo : Hid (∀ i (hi : i < ps.length), ((ps[i].n.id : Nat) : Int) ≠ k) := fun i hi => hn _ (List.mem_map.2 ⟨_, List.getElem_mem hi, rfl⟩)
  subst hv
  obtain ⟨n, hnn⟩ : ∃ n, ps.length = n := ⟨_, rfl⟩
  have HN := hd hnn
  rw [hnn] at c0 hl
  clear hK hn hnn
  go_enter Try.func39, Try.ntmps39
  go_wp2
  go_loopw [5] (fun iv wr => ∃ i : Nat, iv = .int .i64 i ∧ i ≤ n ∧ wr = w) (fun iv _ => n - (intOf iv).toNat)
  case atStart => exact ⟨0, rfl, Nat.zero_le _, rfl⟩
  case round =>
    obtain ⟨i, rfl, hi, hwc⟩ := hrel
    obtain rfl := hwc.symm
    by_cases hlt : i < n
    · have hip : i < ps.length := by rw [HN.out]; exact hlt
      obtain ⟨b, c', hb, hv, hcell⟩ := HA.out i hip
      obtain ⟨rfl, -, -⟩ := Value.slice.inj hv
      have d0 := hcell 0 _ (by omega) rfl
      rw [Nat.add_zero] at d0
      have hne := HNo.out i hip
      have j1 : (i : Int) < (n : Int) := by omega
      generalize ((ps[i].n.id : Nat) : Int) = X at *
      clear hcell
      go_wp2
      exact ⟨⟨i + 1, by go_num, by omega, by first | trivial | rfl⟩, by simp only [intOf]; omega⟩
    · obtain rfl : i = n := by omega
      go_wp2
      go_ret
      exact ⟨rfl, rfl⟩

set_option maxRecDepth 100000 in
set_option maxHeartbeats 4000000 in
theorem rfind_hit (O : Nat → Prop) (r g : Nat) (A B : List Nt) (x : Nt) (w : World) (h : RBD w O r g (A ++ x :: B)) :
    Calls Try.prog 39 #[.pointer (some ⟨r, 0, none⟩), .int .i64 (x.id : Int)] w fun e w' => e = .returned (.int .i64 (A.length : Int)) ∧ w' = w := by
  obtain ⟨β, v, ps, he, hK⟩ := h
  obtain ⟨a, c, hv, c0, -, hc1, hc2, hr⟩ := hK.len
  have hl := hK.lele
  have HA := hd (fun i hi => hK.at i hi)
  have hlen : ps.length = A.length + 1 + B.length := by
    have := congrArg List.length he
    simp at this
    omega
  have HX : Hid (∀ i (hi : i < ps.length), (i < A.length → ps[i].n.id ≠ x.id) ∧ (i = A.length → ps[i].n.id = x.id)) := by
    intro i hi
    have hmap : ∀ j (hj : j < ps.length), (A ++ x :: B)[j]? = some ps[j].n := fun j hj => by
      rw [he, List.getElem?_map, List.getElem?_eq_getElem hj]
      rfl
    have hAx : (ps[A.length]'(by omega)).n.id = x.id := by
      have := hmap A.length (by omega)
      rw [List.getElem?_append_right (Nat.le_refl _), Nat.sub_self] at this
      exact congrArg Nt.id (Option.some.inj this).symm
    refine ⟨fun h1 => ?_, fun h1 => by subst h1; exact hAx⟩
    have := (List.pairwise_iff_getElem.1 hK.ids) i A.length hi (by omega) h1
    omega
  subst hv
  obtain ⟨n, hnn⟩ : ∃ n, ps.length = n := ⟨_, rfl⟩
  have HN := hd hnn
  obtain ⟨m, hm⟩ : ∃ m, A.length = m := ⟨_, rfl⟩
  rw [hnn] at c0 hl
  have hmn : m < n := by omega
  have HM := hd hm
  clear hK hnn he hlen hm
  rw [HM.out]
  go_enter Try.func39, Try.ntmps39
  go_wp2
  go_loopw [5] (fun iv wr => ∃ i : Nat, iv = .int .i64 i ∧ i ≤ m ∧ wr = w) (fun iv _ => n - (intOf iv).toNat)
  case atStart => exact ⟨0, rfl, Nat.zero_le _, rfl⟩
  case round =>
    obtain ⟨i, rfl, hi, hwc⟩ := hrel
    obtain rfl := hwc.symm
    have hip : i < ps.length := by rw [HN.out]; omega
    obtain ⟨b, c', hb, hv, hcell⟩ := HA.out i hip
    obtain ⟨rfl, -, -⟩ := Value.slice.inj hv
    have d0 := hcell 0 _ (by omega) rfl
    rw [Nat.add_zero] at d0
    have j1 : (i : Int) < (n : Int) := by omega
    obtain ⟨hx1, hx2⟩ := HX.out i hip
    rw [HM.out] at hx1 hx2
    by_cases hlt : i < m
    · have hne : ¬ ((ps[i].n.id : Nat) : Int) = (x.id : Int) := by have := hx1 hlt; omega
      generalize ((ps[i].n.id : Nat) : Int) = X at *
      clear hcell hx1 hx2
      go_wp2
      exact ⟨⟨i + 1, by go_num, by omega, by first | trivial | rfl⟩, by simp only [intOf]; omega⟩
    · obtain rfl : i = m := by omega
      rw [hx2 rfl] at d0
      clear hcell hx1 hx2
      go_wp2
      go_ret
      exact ⟨rfl, rfl⟩
end Go.Proofs.Ytkkklfnooeofcab

/-! Jb -/
namespace Go.Proofs.Ytkkklfnooeofcab
open Go.RowKit Go.Lib
set_option linter.unusedVariables false

set_option maxRecDepth 100000 in
set_option maxHeartbeats 1000000 in
theorem rbad_any (c : Int) (s : ByteArray) (w : World) (hs : s.size ≤ 9223372036854775807) : Calls Try.prog 49 #[.int .i64 c, .string s] w fun e w' => e = .returned (.int .i64 (sayE c s)) ∧ w' = w := by
  obtain ⟨r, hr⟩ : ∃ r, sayE c s = r := ⟨_, rfl⟩
  rw [hr]
  have HR := hd hr
  clear hr
  by_cases hc1 : c < 1
  · have Z : Hid (r = 235) := HR.out.symm.trans (say_hand (.inl hc1))
    go_enter Try.func49, Try.ntmps49
    go_wp2
    go_ret
    exact ⟨by rw [Z.out]; rfl, rfl⟩
  · by_cases hc2 : 64 < c
    · have Z : Hid (r = 235) := HR.out.symm.trans (say_hand (.inr hc2))
      go_enter Try.func49, Try.ntmps49
      go_wp2
      go_ret
      exact ⟨by rw [Z.out]; rfl, rfl⟩
    · by_cases hl1 : s.size < 1
      · have e : okW s = false := by simp [okW]; omega
        have Z : Hid (r = 231) := HR.out.symm.trans (say_bad hc1 hc2 e)
        clear e
        have hl2 : (s.size : Int) < 1 := by omega
        go_enter Try.func49, Try.ntmps49
        go_wp2
        go_ret
        exact ⟨by rw [Z.out]; rfl, rfl⟩
      · by_cases hl2 : 120 < s.size
        · have e : okW s = false := by simp [okW]; omega
          have Z : Hid (r = 231) := HR.out.symm.trans (say_bad hc1 hc2 e)
          clear e
          have hl3 : ¬ (s.size : Int) < 1 := by omega
          have hl4 : (120 : Int) < (s.size : Int) := by omega
          go_enter Try.func49, Try.ntmps49
          go_wp2
          go_ret
          exact ⟨by rw [Z.out]; rfl, rfl⟩
        · have e : Hid (okW s = !(s.data.toList.any badC)) := by
            have : decide (1 ≤ s.size ∧ s.size ≤ 120) = true := by simp; omega
            unfold Hid okW
            rw [this]
            rfl
          have hl3 : ¬ (s.size : Int) < 1 := by omega
          have hl4 : ¬ (120 : Int) < (s.size : Int) := by omega
          have HL := hd (show s.data.toList.length = s.size by rw [Array.length_toList]; rfl)
          clear hl1 hl2
          go_enter Try.func49, Try.ntmps49
          go_wp2
          go_loopw [5] (fun i wr => ∃ k : Nat, k ≤ s.size ∧ i = .int .i64 k ∧ Hid ((s.data.toList.take k).any badC = false) ∧ wr = w) (fun i _ => s.size - (intOf i).toNat)
          case atStart => exact ⟨0, Nat.zero_le _, rfl, hd (by simp), rfl⟩
          case round =>
            obtain ⟨k, hk, rfl, HA, hwc⟩ := hrel
            obtain rfl := hwc.symm
            by_cases hlt : k < s.size
            · have HS := hd (byte_snoc s k hlt)
              by_cases hb1 : (s[k].toNat : Int) < 32
              · have Z0 : okW s = false := by
                  rw [e.out, Bool.not_eq_false']
                  exact List.any_eq_true.2 ⟨s[k], ByteArray.getElem_eq_getElem_data ▸ Array.getElem_mem_toList _, by simp [badC, hb1]⟩
                have Z : Hid (r = 231) := HR.out.symm.trans (say_bad (by omega) (by omega) Z0)
                clear HA HS e Z0 HR
                go_wp2
                go_ret
                exact ⟨by rw [Z.out]; rfl, rfl⟩
              · by_cases hb2 : 126 < (s[k].toNat : Int)
                · have Z0 : okW s = false := by
                    rw [e.out, Bool.not_eq_false']
                    exact List.any_eq_true.2 ⟨s[k], ByteArray.getElem_eq_getElem_data ▸ Array.getElem_mem_toList _, by simp [badC, hb2]⟩
                  have Z : Hid (r = 231) := HR.out.symm.trans (say_bad (by omega) (by omega) Z0)
                  clear HA HS e Z0 HR
                  go_wp2
                  go_ret
                  exact ⟨by rw [Z.out]; rfl, rfl⟩
                · have Z : Hid ((s.data.toList.take (k + 1)).any badC = false) := by
                    unfold Hid
                    rw [HS.out, List.any_append, HA.out]
                    simp [badC]
                    omega
                  clear HA HS e
                  go_wp2
                  exact ⟨⟨k + 1, by omega, by go_num, Z, by first | trivial | rfl⟩, by simp only [intOf]; omega⟩
            · have Z0 : okW s = true := by
                have := HA.out
                rw [List.take_of_length_le (by rw [HL.out]; omega)] at this
                rw [e.out, this]
                rfl
              have Z : Hid (r = 0) := HR.out.symm.trans (say_ok (by omega) (by omega) Z0)
              clear HA e Z0 HR
              go_wp2
              go_ret
              exact ⟨by rw [Z.out]; rfl, rfl⟩

/-- A note's value. -/
def rna (p : RN) : Array Value := #[.int .i64 p.n.id, .slice p.ea p.en p.ec, .int .i64 p.n.cl, .string p.n.wo, .bool p.n.sh, .slice p.sa p.sn p.sc]

theorem SF.e3 {w : World} {β : Option Nat} {a : Option Addr} {n c : Nat} {xs : List El} (h : SF elc 3 w 41 β (.slice a n c) xs) (k : Nat) (hk : k < xs.length) : ∃ b, a = some ⟨b, 0, none⟩ ∧ w.cell? ⟨b, k * 3, none⟩ = some (.int .u8 xs[k].1) ∧ w.cell? ⟨b, k * 3 + 1, none⟩ = some (.int .i64 xs[k].2.1) ∧ w.cell? ⟨b, k * 3 + 2, none⟩ = some (.int .i64 xs[k].2.2) := by
  cases β with
  | none =>
    obtain ⟨-, rfl⟩ := h
    simp at hk
  | some g =>
    obtain ⟨cap, h, hR⟩ := h
    injection h with h1 h2 h3
    refine ⟨g, h1, ?_, ?_, ?_⟩
    · have := hR.cell sz_elc k 0 hk (by omega)
      simpa [elc] using this
    · have := hR.cell sz_elc k 1 hk (by omega)
      simpa [elc] using this
    · have := hR.cell sz_elc k 2 hk (by omega)
      simpa [elc] using this

set_option maxRecDepth 100000 in
set_option maxHeartbeats 8000000 in
theorem rhas_any (p : RN) (x : El) (w : World) (h : RK w p) :
    Calls Try.prog 50 #[.agg (rna p), .agg #[.int .u8 x.1, .int .i64 x.2.1, .int .i64 x.2.2]] w fun e w' => e = .returned (.bool (decide (x ∈ p.n.el))) ∧ Below w.heap.size w w' := by
  obtain ⟨u, hu⟩ : ∃ u, (w.alloc (.cells (rna p) 93)).alloc (.cells #[.int .u8 x.1, .int .i64 x.2.1, .int .i64 x.2.2] 41) = u := ⟨_, rfl⟩
  have hB : Hid (Below w.heap.size w u) := by rw [← hu]; exact ((Below.refl _ _).alloc (Nat.le_refl _) _).alloc (by simp) _
  have b0 : u.heap[w.heap.size]? = some (.cells (rna p) 93 (0, 0)) := by
    rw [← hu]
    exact (Fr.alloc (fun _ => False) _ _).keeps (heap_alloc_new w _) (fun h => h)
  have b1 : u.heap[w.heap.size + 1]? = some (.cells #[.int .u8 x.1, .int .i64 x.2.1, .int .i64 x.2.2] 41 (0, 0)) := by
    rw [← hu]
    have := heap_alloc_new (w.alloc (.cells (rna p) 93)) (.cells #[.int .u8 x.1, .int .i64 x.2.1, .int .i64 x.2.2] 41)
    simpa using this
  have he := (h.fr (S := fun _ => False) (Fr.of_below hB.out) (fun _ _ h => h) (fun _ _ h => h)).el
  obtain ⟨a, c, hv, hc, hc'⟩ := he.form
  have RU := hd (fun k hk => he.e3 k hk)
  injection hv with v1 v2 v3
  have c1 : u.cell? ⟨w.heap.size, 1, none⟩ = some (.slice p.ea p.en p.ec) := by rw [cell_row b0]; rfl
  have d0 : u.cell? ⟨w.heap.size + 1, 0, none⟩ = some (.int .u8 x.1) := by rw [cell_row b1]; rfl
  have d1 : u.cell? ⟨w.heap.size + 1, 1, none⟩ = some (.int .i64 x.2.1) := by rw [cell_row b1]; rfl
  have d2 : u.cell? ⟨w.heap.size + 1, 2, none⟩ = some (.int .i64 x.2.2) := by rw [cell_row b1]; rfl
  obtain ⟨n, hn⟩ : ∃ n, p.n.el.length = n := ⟨_, rfl⟩
  unfold rna at hu ⊢
  rw [hn] at hc v2
  obtain ⟨es, hes⟩ : ∃ es, p.n.el = es := ⟨_, rfl⟩
  rw [hes] at hn RU ⊢
  have HN := hd hn
  rw [v2] at hu c1 ⊢
  rw [← v3] at hc hc'
  generalize p.n.id = id at *
  generalize p.n.cl = cc at *
  generalize p.n.wo = wo at *
  generalize p.n.sh = sh at *
  generalize p.ea = ea at *
  generalize p.ec = ec at *
  generalize p.sa = sa at *
  generalize p.sn = sn at *
  generalize p.sc = sc at *
  obtain ⟨xa, xb, xc⟩ := x
  simp only [] at d0 d1 d2 hu ⊢
  clear h he hn v1 v2 v3 hes b0 b1
  go_enter Try.func50, Try.ntmps50
  go_wp2
  clear hu
  go_loopw [5] (fun i wr => ∃ k m : Nat, k ≤ n ∧ i = .int .i64 k ∧ wr = u.drewN m ∧ Hid ((xa, xb, xc) ∉ es.take k)) (fun i _ => n - (intOf i).toNat)
  case atStart => exact ⟨0, 0, Nat.zero_le _, rfl, rfl, hd (by simp)⟩
  case round =>
    obtain ⟨k, m, hk, rfl, rfl, HM⟩ := hrel
    by_cases hlt : k < n
    · have kx : k < es.length := by have := HN.out; omega
      obtain ⟨b1, rfl, x0, x1, x2⟩ := RU.out k kx
      have i1 : (k : Int) < (n : Int) := by omega
      have HT : Hid (es.take (k + 1) = es.take k ++ [es[k]]) := List.take_succ_eq_append_getElem kx
      have HI : Hid (es[k] ∈ es) := List.getElem_mem kx
      generalize es[k] = y at *
      obtain ⟨ya, yb, yc⟩ := y
      simp only [] at x0 x1 x2
      by_cases e : (xa, xb, xc) = (ya, yb, yc)
      · have Z : Hid (decide ((xa, xb, xc) ∈ es) = true) := decide_eq_true (e ▸ HI.out)
        obtain ⟨rfl, e2⟩ := Prod.mk.inj e
        obtain ⟨rfl, rfl⟩ := Prod.mk.inj e2
        clear HM HT HI e e2
        go_wp2
        go_big_quiet (fail)
        go_wp2
        go_ret
        first | exact ⟨by rw [Z.out]; rfl, below_drewN (below_drewN hB.out _) _⟩ | exact ⟨by rw [Z.out]; rfl, below_drewN hB.out _⟩
      · have Z : Hid ((xa, xb, xc) ∉ es.take (k + 1)) := by
          intro hz
          rw [HT.out, List.mem_append] at hz
          rcases hz with hz | hz
          · exact HM.out hz
          · exact e (List.mem_singleton.1 hz)
        clear HM HT HI
        by_cases e1 : ya = xa
        · subst e1
          by_cases e2 : yb = xb
          · subst e2
            have e3 : ¬ yc = xc := fun e3 => e (by rw [e3])
            clear e
            go_wp2
            go_big_quiet (fail)
            go_wp2
            exact ⟨⟨k + 1, _, by omega, by go_num, rfl, Z⟩, by simp only [intOf]; omega⟩
          · clear e
            go_wp2
            go_big_quiet (fail)
            go_wp2
            exact ⟨⟨k + 1, _, by omega, by go_num, rfl, Z⟩, by simp only [intOf]; omega⟩
        · clear e
          go_wp2
          go_big_quiet (fail)
          go_wp2
          exact ⟨⟨k + 1, _, by omega, by go_num, rfl, Z⟩, by simp only [intOf]; omega⟩
    · obtain rfl : k = n := by omega
      have Z : Hid (decide ((xa, xb, xc) ∈ es) = false) := decide_eq_false (by
        have := HM.out
        rwa [List.take_of_length_le (by rw [HN.out]; exact Nat.le_refl _)] at this)
      clear HM
      go_wp2
      go_ret
      first | exact ⟨by rw [Z.out]; rfl, below_drewN (below_drewN hB.out _) _⟩ | exact ⟨by rw [Z.out]; rfl, below_drewN hB.out _⟩

end Go.Proofs.Ytkkklfnooeofcab
