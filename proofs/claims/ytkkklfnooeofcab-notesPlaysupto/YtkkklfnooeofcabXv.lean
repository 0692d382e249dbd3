/-
  The law's asks: All, walked.
-/
import Derived.Test.YtkkklfnooeofcabXu
import Derived.Test.YtkkklfnooeofcabXh
namespace Go.Proofs.Ytkkklfnooeofcab
open Go.RowKit
set_option linter.unusedVariables false

/-- A list of told notes; all its blocks lie between lo and hi. -/
structure AL (wx : World) (lo hi : Nat) (xs : List El) (L : List TN) (β : Option Nat) (a : Option Addr) (N c : Nat) : Prop where
  row : SF tnc 8 wx 47 β (.slice a N c) L
  rb : ∀ j, β = some j → lo ≤ j ∧ j < hi
  ok : ∀ t ∈ L, t.s = reachP xs t.n.el ∧ ∃ γ, SF rpc 2 wx 90 γ (.slice t.a t.l t.c) t.n.sd ∧ ∀ j, γ = some j → lo ≤ j ∧ j < hi
section
variable {wx wy : World} {lo hi : Nat} {xs : List El} {L : List TN} {β : Option Nat} {a : Option Addr} {N c : Nat}
theorem AL.fr {T : Nat → Prop} (h : AL wx lo hi xs L β a N c) (hF : Fr T wx wy) (hT : ∀ j, lo ≤ j → j < hi → ¬ T j) : AL wy lo hi xs L β a N c := by
  refine ⟨h.row.fr hF (fun j hj => hT j (h.rb j hj).1 (h.rb j hj).2), h.rb, fun t ht => ?_⟩
  obtain ⟨h1, γ, h2, h3⟩ := h.ok t ht
  exact ⟨h1, γ, h2.fr hF (fun j hj => hT j (h3 j hj).1 (h3 j hj).2), h3⟩
theorem AL.below (h : AL wx lo hi xs L β a N c) (hb : Below wx.heap.size wx wy) : AL wy lo hi xs L β a N c := h.fr (T := fun _ => False) (Fr.of_below hb) (fun _ _ _ h => h)
theorem AL.tns (h : AL wx lo hi xs L β a N c) : ∀ t ∈ L, TNs wx xs t := fun t ht => by
  obtain ⟨h1, γ, h2, h3⟩ := h.ok t ht
  exact ⟨h1, γ, h2⟩
theorem AL.adr (h : AL wx lo hi xs L β a N c) : ∀ t ∈ L, ∀ j, t.a = some ⟨j, 0, none⟩ → (lo ≤ j ∧ j < hi) ∧ β ≠ some j := fun t ht j hj => by
  obtain ⟨h1, γ, h2, h3⟩ := h.ok t ht
  have e := (h2.adr j).1 hj
  refine ⟨h3 j e, fun hb => ?_⟩
  have hr := h.row
  subst hb
  obtain ⟨cur, hc⟩ := hr.blk
  exact h2.ne_blk hc (by decide) e
theorem AL.nums (h : AL wx lo hi xs L β a N c) : L.length = N ∧ N ≤ c ∧ c ≤ 9223372036854775807 := by
  obtain ⟨a', c', hv, h1, h2⟩ := h.row.form
  obtain ⟨-, e, rfl⟩ := Value.slice.inj hv
  exact ⟨e.symm, by omega, h2⟩
theorem AL.of_all {w0 : World} {v : Value} {Ns : List Nt} {L : List TN} {β : Option Nat} (hS : SF tnc 8 wx 47 β v L) (hb : ∀ k, β = some k → w0.heap.size ≤ k) (hn : L.map TN.n = Ns) (hok : ∀ t ∈ L, TNok w0 wx xs t) : ∃ a c, v = .slice a Ns.length c ∧ AL wx w0.heap.size wx.heap.size xs L β a Ns.length c := by
  obtain ⟨a, c, rfl, h1, h2⟩ := hS.form
  have e : L.length = Ns.length := by rw [← hn, List.length_map]
  rw [e] at hS ⊢
  refine ⟨a, c, rfl, hS, fun j hj => ⟨hb j hj, hS.lt j hj⟩, fun t ht => ?_⟩
  obtain ⟨q1, γ, q2, q3⟩ := hok t ht
  exact ⟨q1, γ, q2, fun j hj => ⟨q3 j hj, q2.lt j hj⟩⟩
end

/-- What the document's All answers. -/
def RA (w : World) (Ns : List Nt) (xs : List El) (v : Value) (u : World) : Prop := AllP w u v Ns xs ∧ Below w.heap.size w u

set_option maxRecDepth 100000 in
set_option maxHeartbeats 16000000 in
theorem asks_all (X off k : Nat) (D : Nat → Prop) (sl id0 f t cc : Int) (s : ByteArray) (a : Option Addr) (n c : Nat) (xs : List El) (w : World) (h : PI w X off D k) (hE : IsE w a n c xs) (hwf : ∀ x ∈ xs, wfE x) (ha : 0 < n → ∀ b o, a = some ⟨b, o, none⟩ → ¬ D b ∧ b ≠ X) (hn : n ≤ 900000) (hk : k ≤ 400000) :
    Calls Try.prog 9 #[.pointer (some ⟨X, off, none⟩), .agg (lopA 5 sl id0 f t cc s a n c)] w fun e w' => e = .returned (.bool true) ∧ StO w w' X off D (k + 1) := by
  obtain ⟨r, q, O, Oq, K1, K2, g, Ns, m1, m2, hP, hD, hsd, hm1, hm2⟩ := h
  have AS := hd (fun w3 gd cd hg hS hb => AW.start (w3 := w3) (gd := gd) (cd := cd) hP hE hD ha (lopA 5 sl id0 f t cc s a n c) hg hS hb)
  have CRM := hd (room_any a n c xs (w.alloc (.cells (lopA 5 sl id0 f t cc s a n c) 36)) (hE.below ((Below.refl _ _).alloc (Nat.le_refl _) _)) hn)
  have FIN := hd (fun wx wy K1n K2n n1 n2 bcs gd cd h => AW.fin (w := w) (X := X) (off := off) (r := r) (q := q) (g := g) (wx := wx) (wy := wy) (K1n := K1n) (K2n := K2n) (n1 := n1) (n2 := n2) (bcs := bcs) (a := a) (n := n) (c := c) (xs := xs) (gd := gd) (cd := cd) hD hsd h)
  have HXN := hd hE.1
  have HRM := hd (show ∀ m ∈ Ns, roomy m.sd.length 24 from fun m hm => roomy24 _ (by have := hsd m hm; omega))
  have HSD := hd (show ∀ m ∈ Ns, m.sd.length ≤ 500000 from fun m hm => by have := hsd m hm; omega)
  have HNs := hd (show Ns.length ≤ 256 by obtain ⟨b, ps, rfl, hK⟩ := hP.b; rw [List.length_map]; exact Nat.le_trans hK.len hK.le)
  have HM := hd (And.intro hm1 hm2)
  clear hP hD hsd hm1 hm2 hE ha
  unfold lopA at AS CRM ⊢
  go_enter Try.func9, Try.ntmps9
  go_upto_region 2 with (go_at_call 16; refine CRM.out.mono ?_; rintro e w3 ⟨gd, cd, rfl, hgd, hSd, hb3⟩)
  have A3 := AS.out w3 gd cd hgd hSd hb3
  have hcd : n + 2 ≤ cd ∧ cd ≤ 9223372036854775807 := by
    obtain ⟨a', d', hv, h1, h2⟩ := hSd.form
    obtain ⟨-, -, rfl⟩ := Value.slice.inj hv
    rw [mkR_len, HXN.out] at h1
    exact ⟨h1, h2⟩
  clear AS CRM hgd hSd hb3
  obtain ⟨c0, c1⟩ := A3.pk.heads
  have x0 := A3.box 0; have x7 := A3.box 7
  simp at x0 x7
  obtain ⟨hX1, hB1, hG1⟩ := A3.size
  have i1 : (n : Int) ≤ (cd : Int) := by omega
  have i2 : (0 : Int) ≤ (n : Int) := by omega
  have HA3 := hd A3
  clear A3
  obtain ⟨N, hN⟩ : ∃ N, Ns.length = N := ⟨_, rfl⟩
  have HN := hd hN
  have hN256 : N ≤ 256 := by rw [← hN]; exact HNs.out
  clear hN HNs
  go_upto_region 14 with fail
  have HCR := hd (fun W (hW : Below w3.heap.size w3 W) => (rall_any Oq q g Ns W (HA3.out.pk.d.below hW) a n c xs (HA3.out.ie.below hW) HRM.out).mono fun e w' h => (show ∃ v, e = .returned v ∧ RA w3 Ns xs v w' by
    obtain ⟨v, h1, ⟨L, β, h2, h3, h4, h5⟩, h6⟩ := h
    exact ⟨v, h1, ⟨L, β, h2, fun k hk => Nat.le_trans hW.size (h3 k hk), h4, fun t ht => by
      obtain ⟨q1, γ, q2, q3⟩ := h5 t ht
      exact ⟨q1, γ, q2, fun k hk => Nat.le_trans hW.size (q3 k hk)⟩⟩, hW.trans (h6.mono hW.size)⟩))
  go_cut [14] (fun v wx => ∃ am cm, v = .slice am N cm ∧ Hid ((∃ L β, L.map TN.n = Ns ∧ AL wx w3.heap.size wx.heap.size xs L β am N cm) ∧ Below w3.heap.size w3 wx))
  case first =>
    refine regAD _ w3 X off w.heap.size r q n c 0 0 a id0 f t cc s (RA w3 Ns xs) hX1 hB1 x7 c1 HCR.out (by simp) rfl rfl ?_
    intro L val u hL hW hV
    have Z0 := hW.2.1 (hL 6 (by omega))
    have E0 := hW.2.2 (hL 7 (by omega))
    rw [← E0] at Z0
    obtain ⟨⟨LL, β, z1, z2, z3, z4⟩, z5⟩ := Z0
    obtain ⟨am, cm, hv, hAL⟩ := AL.of_all z1 z2 z3 z4
    rw [HN.out] at hv hAL
    have Z : Hid ((∃ L β, L.map TN.n = Ns ∧ AL u w3.heap.size u.heap.size xs L β am N cm) ∧ Below w3.heap.size w3 u) := ⟨⟨LL, β, z3, hAL⟩, z5⟩
    clear hW hV hL E0 z1 z2 z3 z4 z5 hAL
    simp only [slAD, DAD, List.getD_cons_zero, List.getD_cons_succ, List.map_cons, List.map_nil, puts, List.foldl_cons, List.foldl_nil, Act.put, List.setIfInBounds_toArray, List.set_cons_succ, List.set_cons_zero]
    generalize val 7 = v9 at *
    subst hv
    go_wp2_with fail
    go_meet
    exact ⟨am, cm, rfl, Z⟩
  case rest =>
    obtain ⟨am, cm, rfl, HZ⟩ := hcut
    obtain ⟨⟨Lm, βm, hmn, hALm⟩, hb⟩ := HZ.out
    have HA4 := hd (HA3.out.below hb)
    have HS3 := hd hb.size
    have HLm := hd hALm
    have HMN := hd hmn
    clear HCR HZ c0 c1 x0 x7 hX1 hB1 hG1 hALm hb hmn
    generalize wc = w4 at *
    obtain ⟨c0, -⟩ := HA4.out.pk.heads
    have CA := hd (all_any2 O r g Ns w4 HA4.out.pk.b (some ⟨gd, 0, none⟩) n cd xs (room_isE HA4.out.rm HXN.out) hwf HRM.out)
    go_upto_region 16 with (go_at_call 20; refine CA.out.mono ?_; rintro e w5 ⟨v5, rfl, ⟨Ln, βn, z1, z2, hnn, z4, hdn⟩, hb⟩)
    obtain ⟨an, cn, rfl, hALn⟩ := AL.of_all z1 z2 hnn z4
    rw [HN.out] at hALn ⊢
    have HA5 := hd (HA4.out.below hb)
    have HS4 := hd hb.size
    have HLm5 := hd (HLm.out.below hb)
    have HLn := hd hALn
    have HYtkkklfnooeofcab := hd hnn
    have HDN := hd hdn
    clear CA c0 z1 z2 hnn z4 hdn hALn hb HLm HA4
    obtain ⟨c0, -⟩ := HA5.out.pk.heads
    have CA := hd (all_any2 O r g Ns w5 HA5.out.pk.b (some ⟨gd, 0, none⟩) n cd xs (room_isE HA5.out.rm HXN.out) hwf HRM.out)
    go_upto_region 17 with (go_at_call 20; refine CA.out.mono ?_; rintro e w6 ⟨v6, rfl, ⟨Lt, βt, z1, z2, htn, z4, hdt⟩, hb⟩)
    obtain ⟨at', ct, rfl, hALt⟩ := AL.of_all z1 z2 htn z4
    rw [HN.out] at hALt ⊢
    have HA6 := hd (HA5.out.below hb)
    have HS5 := hd hb.size
    have HLm6 := hd (HLm5.out.below hb)
    have HLn6 := hd (HLn.out.below hb)
    have HLt6 := hd hALt
    have HTN := hd htn
    have HDT := hd hdt
    clear CA c0 z1 z2 htn z4 hdt hALt hb HLm5 HLn HA5
    have CE := hd (eqNotes_true xs βn βm an am N cn cm Ln Lm w6 HLn6.out.row HLm6.out.row HLn6.out.nums.1 HLn6.out.nums.2.1 HLm6.out.nums.2.1 HLn6.out.nums.2.2 HLm6.out.nums.2.2 HLn6.out.tns HLm6.out.tns (HYtkkklfnooeofcab.out.trans HMN.out.symm))
    go_upto_region 18 with (go_at_call 21; refine CE.out.mono ?_; rintro e w7 ⟨rfl, hb7⟩)
    have HA7 := hd (HA6.out.below hb7)
    have HS6 := hd hb7.size
    have HLm7 := hd (HLm6.out.below hb7)
    have HLn7 := hd (HLn6.out.below hb7)
    have HLt7 := hd (HLt6.out.below hb7)
    clear CE hb7 HLm6 HLn6 HLt6 HA6
    have old2 : Hid (∀ j, w3.heap.size ≤ j → w.heap.size < j ∧ j ≠ gd ∧ ¬ K1 j ∧ ¬ K2 j ∧ j ≠ X) := by
      intro j hj
      have h4 := HA3.out.size
      exact ⟨by omega, by omega, fun hK => by have := HA3.out.old j (.inr (.inr (.inl hK))); omega, fun hK => by have := HA3.out.old j (.inr (.inr (.inr (.inl hK)))); omega, by omega⟩
    have lo4 : Hid (∀ j, w4.heap.size ≤ j → w3.heap.size ≤ j) := fun j hj => Nat.le_trans HS3.out hj
    have lo5 : Hid (∀ j, w5.heap.size ≤ j → w3.heap.size ≤ j) := fun j hj => Nat.le_trans HS3.out (Nat.le_trans HS4.out hj)
    have sdl : ∀ {L : List TN}, L.map TN.n = Ns → ∀ t ∈ L, t.n.sd.length ≤ 500000 := fun {L} e t ht => HSD.out _ (by rw [← e]; exact List.mem_map.2 ⟨t, ht, rfl⟩)
    have SDN := hd (sdl HYtkkklfnooeofcab.out)
    have SDT := hd (sdl HTN.out)
    have CO := hd (over_any X off K2 m2 an N cn Ln βn xs w7 HA7.out.pk.p2 HLn7.out.row HLn7.out.tns HDN.out (fun t ht j hj => (old2.out j (lo4.out j (HLn7.out.adr t ht j hj).1.1)).2.2.2.1) (fun j hj => (old2.out j (lo4.out j (HLn7.out.rb j hj).1)).2.2.2.1) SDN.out hN256 (by have := HM.out.2; omega))
    clear sdl SDN
    go_upto_region 19 with (go_at_call 22; refine CO.out.mono ?_; rintro e w8 ⟨rfl, hO8⟩)
    obtain ⟨K8, k1, k2, k3, k4, k5⟩ := hO8
    have hA8 := HA7.out.repl (Pn := fun j => ∃ t ∈ Ln, t.a = some ⟨j, 0, none⟩) (Qn := fun j => (∃ t ∈ Ln, t.a = some ⟨j, 0, none⟩) ∨ βn = some j) k1 k2 (k3.mono (fun j _ hj => by
      rcases hj with h | h | h | h
      · exact .inl h
      · exact .inr (.inl (.inl h))
      · exact .inr (.inr h)
      · exact .inr (.inl (.inr h)))) k4 (fun j hj => by
      have hlo : w4.heap.size ≤ j := by
        rcases hj with ⟨t, ht, h⟩ | ⟨t, ht, h⟩ | h
        · exact (HLn7.out.adr t ht j h).1.1
        · exact (HLn7.out.adr t ht j h).1.1
        · exact (HLn7.out.rb j h).1
      obtain ⟨q1, q2, q3, q4, -⟩ := old2.out j (lo4.out j hlo)
      exact ⟨q1, q2, q3, q4⟩)
    have out8 : ∀ j, w3.heap.size ≤ j → (j < w4.heap.size ∨ w5.heap.size ≤ j) → ¬ (K2 j ∨ (∃ t ∈ Ln, t.a = some ⟨j, 0, none⟩) ∨ j = X ∨ βn = some j) := by
      intro j hj hs hT
      obtain ⟨q1, q2, q3, q4, q5⟩ := old2.out j hj
      rcases hT with h | ⟨t, ht, h⟩ | h | h
      · exact q4 h
      · have := (HLn7.out.adr t ht j h).1; omega
      · exact q5 h
      · have := HLn7.out.rb j h; omega
    have HA8 := hd hA8
    have HLm8 := hd (HLm7.out.fr k3 (fun j h1 h2 => out8 j h1 (.inl h2)))
    have HLt8 := hd (HLt7.out.fr k3 (fun j h1 h2 => out8 j (lo5.out j h1) (.inr h1)))
    have HK8 : Hid (∀ j, w5.heap.size ≤ j → j < w6.heap.size → ¬ K8 j) := by
      intro j h1 h2 hK
      rcases k2 j hK with h | ⟨t, ht, h⟩ | h
      · exact (old2.out j (lo5.out j h1)).2.2.2.1 h
      · have := (HLn7.out.adr t ht j h).1; omega
      · have := HS6.out; omega
    have HKn : Hid (∀ j, βn = some j → ¬ K8 j) := by
      intro j hj hK
      have hb := HLn7.out.rb j hj
      rcases k2 j hK with h | ⟨t, ht, h⟩ | h
      · exact (old2.out j (lo4.out j hb.1)).2.2.2.1 h
      · exact (HLn7.out.adr t ht j h).2 hj
      · have := HS6.out; have := HS5.out; omega
    have HC8 := hd k5
    have HS7 := hd k3.size
    have HRn := hd HLn7.out.rb
    have HNn := hd HLn7.out.nums
    clear CO HA7 HLm7 HLn7 HLt7 k1 k2 k3 k4 k5 hA8 out8
    have CE := hd (eqNotes_true xs βt βm at' am N ct cm Lt Lm w8 HLt8.out.row HLm8.out.row HLt8.out.nums.1 HLt8.out.nums.2.1 HLm8.out.nums.2.1 HLt8.out.nums.2.2 HLm8.out.nums.2.2 HLt8.out.tns HLm8.out.tns (HTN.out.trans HMN.out.symm))
    go_upto_region 20 with (go_at_call 21; refine CE.out.mono ?_; rintro e w9 ⟨rfl, hb9⟩)
    have HA9 := hd (HA8.out.below hb9)
    have HLt9 := hd (HLt8.out.below hb9)
    have HC9 : Hid (∀ i, i < N → ∃ g, an = some ⟨g, 0, none⟩ ∧ βn = some g ∧ w9.cell? ⟨g, i * 8, none⟩ = some (.int .i64 (-1)) ∧ g < w9.heap.size) := by
      intro i hi
      obtain ⟨gn, e1, e2, e3⟩ := HC8.out i hi
      have hl : gn < w8.heap.size := by have := (HRn.out gn e2).2; have := HS5.out; have := HS6.out; have := HS7.out; omega
      exact ⟨gn, e1, e2, by rw [hb9.cell (p := ⟨gn, i * 8, none⟩) hl]; exact e3, Nat.lt_of_lt_of_le hl hb9.size⟩
    have NT9 : Hid (∀ j, w5.heap.size ≤ j → j < w6.heap.size → w.heap.size < j ∧ j ≠ gd ∧ ¬ K1 j ∧ ¬ K8 j) := by
      intro j h1 h2
      obtain ⟨q1, q2, q3, -⟩ := old2.out j (lo5.out j h1)
      exact ⟨q1, q2, q3, HK8.out j h1 h2⟩
    have CO := hd (over_any X off K8 (m2 + 2 * N) at' N ct Lt βt xs w9 HA9.out.pk.p2 HLt9.out.row HLt9.out.tns HDT.out (fun t ht j hj => (NT9.out j (HLt9.out.adr t ht j hj).1.1 (HLt9.out.adr t ht j hj).1.2).2.2.2) (fun j hj => (NT9.out j (HLt9.out.rb j hj).1 (HLt9.out.rb j hj).2).2.2.2) SDT.out hN256 (by have := HM.out.2; omega))
    clear CE hb9 HA8 HLm8 HLt8 HC8
    go_upto_region 21 with (go_at_call 22; refine CO.out.mono ?_; rintro e w10 ⟨rfl, hO10⟩)
    obtain ⟨K10, k1, k2, k3, k4, -⟩ := hO10
    have hA10 := HA9.out.repl (Pn := fun j => ∃ t ∈ Lt, t.a = some ⟨j, 0, none⟩) (Qn := fun j => (∃ t ∈ Lt, t.a = some ⟨j, 0, none⟩) ∨ βt = some j) k1 k2 (k3.mono (fun j _ hj => by
      rcases hj with h | h | h | h
      · exact .inl h
      · exact .inr (.inl (.inl h))
      · exact .inr (.inr h)
      · exact .inr (.inl (.inr h)))) k4 (fun j hj => by
      rcases hj with ⟨t, ht, h⟩ | ⟨t, ht, h⟩ | h
      · exact NT9.out j (HLt9.out.adr t ht j h).1.1 (HLt9.out.adr t ht j h).1.2
      · exact NT9.out j (HLt9.out.adr t ht j h).1.1 (HLt9.out.adr t ht j h).1.2
      · exact NT9.out j (HLt9.out.rb j h).1 (HLt9.out.rb j h).2)
    have HC10 : Hid (∀ i, i < N → ∃ g, an = some ⟨g, 0, none⟩ ∧ w10.cell? ⟨g, i * 8, none⟩ = some (.int .i64 (-1))) := by
      intro i hi
      obtain ⟨gn, e1, e2, e3, e4⟩ := HC9.out i hi
      refine ⟨gn, e1, ?_⟩
      have hr := HRn.out gn e2
      rw [k3.cell (p := ⟨gn, i * 8, none⟩) e4 (fun hT => ?_)]
      · exact e3
      · rcases hT with h | ⟨t, ht, h⟩ | h | h
        · exact HKn.out gn e2 h
        · have := (HLt9.out.adr t ht gn h).1; omega
        · exact (old2.out gn (lo4.out gn hr.1)).2.2.2.2 h
        · have := HLt9.out.rb gn h; omega
    have CK := hd (kept_any gd cd (n + 2) a n c xs w10 hA10.ie hn hA10.rm)
    have x7 := hA10.box 7
    simp at x7
    have Z := hd (fun wy hF => FIN.out w10 wy K1 K10 m1 (m2 + 2 * N + 2 * N) _ gd cd hA10 (by have := HM.out.1; omega) (by have := HM.out.2; omega) hF)
    have hNc := HNn.out.2
    clear CO HA9 HLt9 HC9 NT9 k1 k2 k3 k4 hA10 FIN HNn HRn HKn HK8 old2 lo4 lo5
    go_wp2
    go_loopw [7, 17] (fun okv iv wr => ∃ i : Nat, okv = .bool true ∧ iv = .int .i64 i ∧ i ≤ N ∧ wr = w10) (fun _ iv _ => N - (intOf iv).toNat)
    case atStart => exact ⟨0, rfl, rfl, Nat.zero_le _, rfl⟩
    case round =>
      obtain ⟨i, rfl, rfl, hi, hw⟩ := hrel
      obtain rfl := hw.symm
      by_cases hlt : i < N
      · obtain ⟨gn, e1, x8⟩ := HC10.out i hlt
        subst e1
        have i3 : (i : Int) < (N : Int) := by omega
        go_wp2
        exact ⟨⟨i + 1, rfl, by go_num, by omega, by first | trivial | rfl⟩, by simp only [intOf]; omega⟩
      · obtain rfl : i = N := by omega
        go_wp2_with (go_at_call 26; refine CK.out.mono ?_; rintro e w11 ⟨rfl, hF11⟩)
        go_ret
        exact ⟨rfl, Z.out _ hF11⟩
end Go.Proofs.Ytkkklfnooeofcab
