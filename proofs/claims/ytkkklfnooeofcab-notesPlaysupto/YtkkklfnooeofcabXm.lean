/-
  The law's changes: Put.
-/
import Derived.Test.YtkkklfnooeofcabXn
import Derived.Deep.DeepCutAuto
namespace Go.Proofs.Ytkkklfnooeofcab
open Go.RowKit
set_option linter.unusedVariables false

theorem NowB.of {w1 W w' : World} {O : Nat → Prop} {r g : Nat} {Ns : List Nt} (hW : Below w1.heap.size w1 W) (h : NowB W w' O r g Ns) : NowB w1 w' O r g Ns := by
  obtain ⟨O', h1, h2, h3⟩ := h
  have := hW.size
  exact ⟨O', h1, fun k hk => by rcases h2 k hk with h | h; exact .inl h; exact .inr (by omega), (Fr.of_below hW).trans h3⟩
theorem NowR.of {w1 W w' : World} {O : Nat → Prop} {r g : Nat} {Ns : List Nt} (hW : Below w1.heap.size w1 W) (h : NowR W w' O r g Ns) : NowR w1 w' O r g Ns := by
  obtain ⟨O', h1, h2, h3⟩ := h
  have := hW.size
  exact ⟨O', h1, fun k hk => by rcases h2 k hk with h | h; exact .inl h; exact .inr (by omega), (Fr.of_below hW).trans h3⟩

theorem chg_fin {w w5 : World} {X off r q : Nat} {D O Oq O5 Oq5 K1 K2 : Nat → Prop} {g g' : Nat} {Ns Ns' : List Nt} {m1 m2 k : Nat} (hP : PK w X off r q O Oq K1 K2 g Ns g Ns m1 m2) (hD : ∀ j, D j ↔ (O j ∨ Oq j ∨ K1 j ∨ K2 j)) (hsd : ∀ n ∈ Ns', n.sd.length ≤ k) (hm1 : m1 ≤ 4 * k) (hm2 : m2 ≤ 1024 * k)
    (P5 : PK w5 X off r q O5 Oq5 K1 K2 g' Ns' g' Ns' m1 m2) (h1 : ∀ j, O5 j → O j ∨ w.heap.size ≤ j) (h2 : ∀ j, Oq5 j → Oq j ∨ w.heap.size ≤ j) (F : Fr (fun j => O j ∨ Oq j ∨ w.heap.size ≤ j) w w5) : StO w w5 X off D k := by
  refine ⟨fun j => O5 j ∨ Oq5 j ∨ K1 j ∨ K2 j, ⟨r, q, O5, Oq5, K1, K2, g', Ns', m1, m2, P5, fun j => Iff.rfl, hsd, hm1, hm2⟩, fun j hj => ?_, F.mono (fun j hj h => ?_), XR.of_fr F (fun h => ?_)⟩
  · rcases hj with h | h | h | h
    · rcases h1 j h with h | h
      · exact .inl ((hD j).2 (.inl h))
      · exact .inr h
    · rcases h2 j h with h | h
      · exact .inl ((hD j).2 (.inr (.inl h)))
      · exact .inr h
    · exact .inl ((hD j).2 (.inr (.inr (.inl h))))
    · exact .inl ((hD j).2 (.inr (.inr (.inr h))))
  · rcases h with h | h | h
    · exact .inl ((hD j).2 (.inl h))
    · exact .inl ((hD j).2 (.inr (.inl h)))
    · omega
  · rcases h with h | h | h
    · exact hP.nb h
    · exact hP.nd h
    · have := hP.lt; omega
theorem PK.heads {w : World} {X off r q : Nat} {O Oq K1 K2 : Nat → Prop} {gb : Nat} {Nb : List Nt} {gd : Nat} {Nd : List Nt} {m1 m2 : Nat} (h : PK w X off r q O Oq K1 K2 gb Nb gd Nd m1 m2) : w.cell? ⟨X, off, none⟩ = some (.pointer (some ⟨r, 0, none⟩)) ∧ w.cell? ⟨X, off + 1, none⟩ = some (.pointer (some ⟨q, 0, none⟩)) := ⟨h.box.get (i := 0) _ rfl, h.box.get (i := 1) _ rfl⟩
/-- The text in the room. -/
theorem room_isE {w : World} {g n c : Nat} {xs : List El} (h : SF elc 3 w 41 (some g) (.slice (some ⟨g, 0, none⟩) (n + 2) c) (mkR xs)) (hn : xs.length = n) : IsE w (some ⟨g, 0, none⟩) n c xs := by
  obtain ⟨a', c', hv, hE, -⟩ := (sf_se h).form
  obtain ⟨rfl, -, rfl⟩ := Value.slice.inj hv
  have := hE.take n (by rw [mkR_len]; omega)
  rwa [show (mkR xs).take n = xs by rw [← hn]; unfold mkR; rw [List.take_left]] at this

/-- A step, as it comes in. -/
def lopA (kd sl id f t cc : Int) (s : ByteArray) (a : Option Addr) (n c : Nat) : Array Value := #[.int .i64 kd, .int .i64 sl, .int .i64 id, .int .i64 f, .int .i64 t, .int .i64 cc, .string s, .slice a n c]

/-- In the midst of a step that changes: the boards' blocks are On and Oqn; the step lies in the box at block w.heap.size. -/
structure MW (w wx : World) (X off r q : Nat) (O Oq K1 K2 On Oqn : Nat → Prop) (gb : Nat) (Nb : List Nt) (gd : Nat) (Nd : List Nt) (m1 m2 : Nat) (bcs : Array Value) (a : Option Addr) (n c : Nat) (xs : List El) : Prop where
  pk : PK wx X off r q On Oqn K1 K2 gb Nb gd Nd m1 m2
  o1 : ∀ j, On j → O j ∨ w.heap.size < j
  o2 : ∀ j, Oqn j → Oq j ∨ w.heap.size < j
  fr : Fr (fun j => O j ∨ Oq j ∨ w.heap.size ≤ j) w wx
  bx : wx.heap[w.heap.size]? = some (.cells bcs 36 (0, 0))
  ie : IsE wx a n c xs
  ia : 0 < n → ∀ b o, a = some ⟨b, o, none⟩ → b < w.heap.size ∧ ¬ O b ∧ ¬ Oq b
  old : ∀ j, (O j ∨ Oq j) → j < w.heap.size
section
variable {w wx wy : World} {X off r q : Nat} {O Oq K1 K2 On Oqn : Nat → Prop} {gb : Nat} {Nb : List Nt} {gd : Nat} {Nd : List Nt} {m1 m2 : Nat} {bcs : Array Value} {a : Option Addr} {n c : Nat} {xs : List El}
theorem MW.start (hP : PK w X off r q O Oq K1 K2 gb Nb gd Nd m1 m2) (hE : IsE w a n c xs) {D : Nat → Prop} (hD : ∀ j, D j ↔ (O j ∨ Oq j ∨ K1 j ∨ K2 j)) (ha : 0 < n → ∀ b o, a = some ⟨b, o, none⟩ → ¬ D b ∧ b ≠ X) (bcs : Array Value) : MW w (w.alloc (.cells bcs 36)) X off r q O Oq K1 K2 O Oq gb Nb gd Nd m1 m2 bcs a n c xs := by
  have hb : Below w.heap.size w (w.alloc (.cells bcs 36)) := (Below.refl _ _).alloc (Nat.le_refl _) _
  refine ⟨hP.below hb, fun j h => .inl h, fun j h => .inl h, Fr.of_below hb, heap_alloc_new w _, hE.below hb, fun h0 b o e => ?_, fun j hj => ?_⟩
  · obtain ⟨b', o', e', hlt⟩ := hE.addr h0
    have hh := (ha h0 b o e).1
    rw [e] at e'
    injection e' with e'
    injection e' with e1 e2
    subst e1
    exact ⟨hlt, fun h => hh ((hD b).2 (.inl h)), fun h => hh ((hD b).2 (.inr (.inl h)))⟩
  · rcases hj with h | h
    · exact hP.b.old j h
    · exact hP.d.old j h
theorem MW.size (h : MW w wx X off r q O Oq K1 K2 On Oqn gb Nb gd Nd m1 m2 bcs a n c xs) : X < wx.heap.size ∧ w.heap.size < wx.heap.size := ⟨h.pk.lt, block_lt h.bx⟩
theorem MW.box (h : MW w wx X off r q O Oq K1 K2 On Oqn gb Nb gd Nd m1 m2 bcs a n c xs) (i : Nat) : wx.cell? ⟨w.heap.size, i, none⟩ = bcs[i]? := cell_row h.bx i
theorem MW.below (h : MW w wx X off r q O Oq K1 K2 On Oqn gb Nb gd Nd m1 m2 bcs a n c xs) (hb : Below wx.heap.size wx wy) : MW w wy X off r q O Oq K1 K2 On Oqn gb Nb gd Nd m1 m2 bcs a n c xs :=
  ⟨h.pk.below hb, h.o1, h.o2, h.fr.trans (Fr.of_below hb), (Fr.of_below (S := fun _ => False) hb).keeps h.bx (fun h => h), h.ie.below hb, h.ia, h.old⟩
theorem MW.setB {g' : Nat} {N' : List Nt} (h : MW w wx X off r q O Oq K1 K2 On Oqn gb Nb gd Nd m1 m2 bcs a n c xs) (hN : NowB wx wy On r g' N') : ∃ O', MW w wy X off r q O Oq K1 K2 O' Oqn g' N' gd Nd m1 m2 bcs a n c xs ∧ Fr On wx wy ∧ ∀ j, O' j → On j ∨ wx.heap.size ≤ j := by
  obtain ⟨O', h1, h2, h3⟩ := h.pk.setB hN
  have hz := h.size.2
  refine ⟨O', ⟨h1, fun j hj => ?_, h.o2, h.fr.next h3 (fun j hj h4 => ?_), h3.keeps h.bx (fun hO => ?_), h.ie.fr h3 (fun h0 b o e hO => ?_), h.ia, h.old⟩, h3, h2⟩
  · rcases h2 j hj with h4 | h4
    · exact h.o1 j h4
    · exact .inr (by omega)
  · rcases h.o1 j h4 with h5 | h5
    · exact .inl h5
    · exact .inr (.inr (by omega))
  · rcases h.o1 _ hO with h5 | h5
    · have := h.old _ (.inl h5); omega
    · omega
  · obtain ⟨h5, h6, h7⟩ := h.ia h0 b o e
    rcases h.o1 b hO with h8 | h8
    · exact h6 h8
    · omega
theorem MW.setD {g' : Nat} {N' : List Nt} (h : MW w wx X off r q O Oq K1 K2 On Oqn gb Nb gd Nd m1 m2 bcs a n c xs) (hN : NowR wx wy Oqn q g' N') : ∃ O', MW w wy X off r q O Oq K1 K2 On O' gb Nb g' N' m1 m2 bcs a n c xs ∧ Fr Oqn wx wy := by
  obtain ⟨O', h1, h2, h3⟩ := h.pk.setD hN
  have hz := h.size.2
  refine ⟨O', ⟨h1, h.o1, fun j hj => ?_, h.fr.next h3 (fun j hj h4 => ?_), h3.keeps h.bx (fun hO => ?_), h.ie.fr h3 (fun h0 b o e hO => ?_), h.ia, h.old⟩, h3⟩
  · rcases h2 j hj with h4 | h4
    · exact h.o2 j h4
    · exact .inr (by omega)
  · rcases h.o2 j h4 with h5 | h5
    · exact .inr (.inl h5)
    · exact .inr (.inr (by omega))
  · rcases h.o2 _ hO with h5 | h5
    · have := h.old _ (.inr h5); omega
    · omega
  · obtain ⟨h5, h6, h7⟩ := h.ia h0 b o e
    rcases h.o2 b hO with h8 | h8
    · exact h7 h8
    · omega
theorem PK.olds (h : PK wx X off r q On Oqn K1 K2 gb Nb gd Nd m1 m2) : (∀ j, (On j ∨ Oqn j ∨ K1 j ∨ K2 j) → j < wx.heap.size) ∧ X < wx.heap.size := by
  refine ⟨fun j hj => ?_, h.lt⟩
  rcases hj with h4 | h4 | h4 | h4
  · exact h.b.old j h4
  · exact h.d.old j h4
  · exact h.o1 j h4
  · exact h.o2 j h4
theorem MW.kept {gk : Nat} (h : MW w wx X off r q O Oq K1 K2 On Oqn gb Nb gd Nd m1 m2 bcs a n c xs) (hF : Fr (fun j => j = gk) wx wy) (hg : ∀ j, (On j ∨ Oqn j ∨ K1 j ∨ K2 j) → ¬ j = gk) (hX : ¬ X = gk) (hw : w.heap.size < gk) : MW w wy X off r q O Oq K1 K2 On Oqn gb Nb gd Nd m1 m2 bcs a n c xs := by
  refine ⟨h.pk.fr hF hg hX, h.o1, h.o2, h.fr.trans (hF.mono (fun j _ e => .inr (.inr (by omega)))), hF.keeps h.bx (by omega), h.ie.fr hF (fun h0 b o e hO => ?_), h.ia, h.old⟩
  have := (h.ia h0 b o e).1
  omega
theorem MW.fin {D : Nat → Prop} {g g' k : Nat} {Ns Ns' : List Nt} (hP : PK w X off r q O Oq K1 K2 g Ns g Ns m1 m2) (hD : ∀ j, D j ↔ (O j ∨ Oq j ∨ K1 j ∨ K2 j)) (hsd : ∀ n ∈ Ns', n.sd.length ≤ k) (hm1 : m1 ≤ 4 * k) (hm2 : m2 ≤ 1024 * k) (h : MW w wx X off r q O Oq K1 K2 On Oqn g' Ns' g' Ns' m1 m2 bcs a n c xs) : StO w wx X off D k :=
  chg_fin hP hD hsd hm1 hm2 h.pk (fun j hj => (h.o1 j hj).imp id Nat.le_of_lt) (fun j hj => (h.o2 j hj).imp id Nat.le_of_lt) h.fr
end

set_option maxRecDepth 100000 in
set_option maxHeartbeats 16000000 in
theorem changes_put (X off k : Nat) (D : Nat → Prop) (sl id0 f t cc : Int) (s : ByteArray) (a : Option Addr) (n c : Nat) (xs : List El) (w : World) (h : PI w X off D k) (hE : IsE w a n c xs) (hwf : ∀ x ∈ xs, wfE x) (ha : 0 < n → ∀ b o, a = some ⟨b, o, none⟩ → ¬ D b ∧ b ≠ X) (hn : n ≤ 900000) (hsz : s.size ≤ 9223372036854775807) :
    Calls Try.prog 13 #[.pointer (some ⟨X, off, none⟩), .agg (lopA 1 sl id0 f t cc s a n c)] w fun e w' => e = .returned (.bool true) ∧ StO w w' X off D k := by
  obtain ⟨r, q, O, Oq, K1, K2, g, Ns, m1, m2, hP, hD, hsd, hm1, hm2⟩ := h
  obtain ⟨id, er, g', Ns', CR, CP, hsd'⟩ := put_both g Ns n xs f t cc s hwf hn hsz hP.b.ids.2.2
  have hM := MW.start hP hE hD ha (lopA 1 sl id0 f t cc s a n c)
  have FIN := hd (fun wx On Oqn bcs h => MW.fin (wx := wx) (On := On) (Oqn := Oqn) (g' := g') (Ns' := Ns') (bcs := bcs) (a := a) (n := n) (c := c) (xs := xs) hP hD (hsd' k hsd) hm1 hm2 h)
  have HXN := hd hE.1
  clear hP hD hsd hm1 hm2 hE ha hsd'
  unfold lopA at hM ⊢
  go_enter Try.func13, Try.ntmps13
  go_upto_region 3 with fail
  generalize w.alloc (.cells #[.int .i64 1, .int .i64 sl, .int .i64 id0, .int .i64 f, .int .i64 t, .int .i64 cc, .string s, .slice a n c] 36) = w1 at *
  obtain ⟨c0, c1⟩ := hM.pk.heads
  have x3 := hM.box 3; have x4 := hM.box 4; have x5 := hM.box 5; have x6 := hM.box 6; have x7 := hM.box 7
  simp at x3 x4 x5 x6 x7
  obtain ⟨hX1, hB1⟩ := hM.size
  have HCR := hd (fun W (hW : Below w1.heap.size w1 W) => (CR W Oq q a c (hM.pk.d.below hW) (hM.ie.below hW)).mono fun e w' h => And.intro h.1 (NowR.of hW h.2))
  have HM := hd hM
  have HCP := hd CP
  clear hM CR CP
  go_cut [5, 6] (fun v5 v6 wx => v5 = .int .i64 id ∧ v6 = .int .i64 er ∧ Hid (NowR w1 wx Oq q g' Ns'))
  case first =>
    refine regCA _ w1 X off w.heap.size r q n c 0 0 a id0 f t cc s id er (fun u => NowR w1 u Oq q g' Ns') hX1 hB1 x3 x4 x5 x6 x7 c1 HCR.out (by simp) rfl rfl ?_
    intro L val u hL hW hV
    have v1 : val 18 = .int .i64 id := by
      rcases hV 18 with h | h | h
      · cases h
      · exact (Option.some.inj h).symm
      · exact absurd (by decide) h
    have v2 : val 19 = .int .i64 er := by
      rcases hV 19 with h | h | h
      · cases h
      · exact (Option.some.inj h).symm
      · exact absurd (by decide) h
    have Z := hd (hW.2 (hL 14 (by omega)))
    clear hW hV hL
    simp only [slCA, DCA, List.getD_cons_zero, List.getD_cons_succ, List.map_cons, List.map_nil, puts, List.foldl_cons, List.foldl_nil, Act.put, List.setIfInBounds_toArray, List.set_cons_succ, List.set_cons_zero]
    rw [v1, v2]
    go_wp2_with fail
    go_meet
    exact ⟨rfl, rfl, Z⟩
  case rest =>
    obtain ⟨rfl, rfl, hN⟩ := hcut
    obtain ⟨Oq2, hM2, -⟩ := HM.out.setD hN.out
    have CRM := hd (room_any a n c xs wc hM2.ie hn)
    have y7 := hM2.box 7
    simp at y7
    have HM2 := hd hM2
    clear hN HM HCR c0 c1 x3 x4 x5 x6 x7 hX1 hB1 hM2
    go_upto_region 5 with (go_at_call 16; refine CRM.out.mono ?_; rintro e w3 ⟨gd, cd, rfl, hgd, hSd, hb3⟩)
    have hM3 := HM2.out.below hb3
    obtain ⟨c0, c1⟩ := hM3.pk.heads
    have x3 := hM3.box 3; have x4 := hM3.box 4; have x5 := hM3.box 5; have x6 := hM3.box 6; have x7 := hM3.box 7
    simp at x3 x4 x5 x6 x7
    obtain ⟨hX1, hB1⟩ := hM3.size
    have hcd : n + 2 ≤ cd ∧ cd ≤ 9223372036854775807 := by
      obtain ⟨a', d', hv, h1, h2⟩ := hSd.form
      obtain ⟨-, -, rfl⟩ := Value.slice.inj hv
      rw [mkR_len, HXN.out] at h1
      exact ⟨h1, h2⟩
    have hE3 := room_isE hSd HXN.out
    have HCR := hd (fun W (hW : Below w3.heap.size w3 W) => (HCP.out W O r (some ⟨gd, 0, none⟩) cd (hM3.pk.b.below hW) (hE3.below hW)).mono fun e w' h => And.intro h.1 (NowB.of hW h.2))
    have HG : Hid ((∀ j, (O j ∨ Oq2 j ∨ K1 j ∨ K2 j) → j < gd) ∧ X < gd ∧ gd < w3.heap.size ∧ w.heap.size < gd) := by
      obtain ⟨q1, q2⟩ := HM2.out.pk.olds
      have q3 := HM2.out.size.2
      exact ⟨fun j hj => by have := q1 j hj; omega, by omega, hSd.lt gd rfl, by omega⟩
    have HM3 := hd hM3
    have HS := hd hSd
    clear hM3 hSd hb3 hgd HM2 CRM y7 hE3 HCP
    go_cut [8, 9] (fun v5 v6 wx => v5 = .int .i64 id ∧ v6 = .int .i64 er ∧ Hid (NowB w3 wx O r g' Ns'))
    case first =>
      refine regCB _ w3 X off w.heap.size r q n c gd cd a id0 f t cc s id er (fun u => NowB w3 u O r g' Ns') hX1 hB1 x3 x4 x5 x6 x7 c0 hcd.1 hcd.2 HCR.out (by simp) rfl rfl rfl ?_
      intro L val u hL hW hV
      have v1 : val 21 = .int .i64 id := by
        rcases hV 21 with h | h | h
        · cases h
        · exact (Option.some.inj h).symm
        · exact absurd (by decide) h
      have v2 : val 22 = .int .i64 er := by
        rcases hV 22 with h | h | h
        · cases h
        · exact (Option.some.inj h).symm
        · exact absurd (by decide) h
      have Z := hd (hW.2 (hL 17 (by omega)))
      clear hW hV hL
      simp only [slCB, DCB, List.getD_cons_zero, List.getD_cons_succ, List.map_cons, List.map_nil, puts, List.foldl_cons, List.foldl_nil, Act.put, List.setIfInBounds_toArray, List.set_cons_succ, List.set_cons_zero]
      rw [v1, v2]
      go_wp2_with fail
      go_meet
      exact ⟨rfl, rfl, Z⟩
    case rest =>
      obtain ⟨rfl, rfl, hN⟩ := hcut
      obtain ⟨O4, hM4, hF4, hO4⟩ := HM3.out.setB hN.out
      have hS4 := HS.out.fr hF4 (fun j hj hO => by
        have := HG.out.1 j (.inl hO)
        injection hj with hj
        omega)
      have CK := hd (kept_any gd cd (n + 2) a n c xs wc hM4.ie hn hS4)
      have y7 := hM4.box 7
      simp at y7
      have HM4 := hd hM4
      have HGN : Hid (∀ j, (O4 j ∨ Oq2 j ∨ K1 j ∨ K2 j) → ¬ j = gd) := by
        intro j hj e
        subst e
        obtain ⟨q1, q2, q3, q4⟩ := HG.out
        rcases hj with h | h | h | h
        · rcases hO4 j h with h | h
          · exact Nat.lt_irrefl _ (q1 j (.inl h))
          · omega
        · exact Nat.lt_irrefl _ (q1 j (.inr (.inl h)))
        · exact Nat.lt_irrefl _ (q1 j (.inr (.inr (.inl h))))
        · exact Nat.lt_irrefl _ (q1 j (.inr (.inr (.inr h))))
      clear hN HM3 HCR c0 c1 x3 x4 x5 x6 x7 hX1 hB1 hM4 hF4 hS4 hO4
      go_wp2_with (go_at_call 26; refine CK.out.mono ?_; rintro e w5 ⟨rfl, hF5⟩)
      go_ret
      have q := HG.out
      exact ⟨rfl, FIN.out _ O4 Oq2 _ (HM4.out.kept hF5 HGN.out (by omega) q.2.2.2)⟩
end Go.Proofs.Ytkkklfnooeofcab
