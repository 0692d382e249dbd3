/-
  Of the laws: into, ends, same, alike, flights.
-/
import Derived.Test.YtnglcnilckolkaaNo
import Derived.Test.YtnglcnilckolkaaNl
import Derived.Deep.QuietTactic
import Derived.BigQuiet
namespace Go.Proofs.Ytnglcnilckolkaa
open Go.RowKit
set_option linter.unusedVariables false

def intoP (x : Int) (M : Nat) : Nat := (if x.tmod M < 0 then x.tmod M + M else x.tmod M).toNat
theorem intoP_lt (x : Int) (M : Nat) (h0 : 0 < M) : intoP x M < M := by
  have b1 : x.tmod M < M := Int.tmod_lt_of_pos _ (by omega)
  have b2 : -(M : Int) < x.tmod M := by
    have := Int.lt_tmod_of_pos x (b := (M : Int)) (by omega)
    omega
  unfold intoP
  split <;> omega
theorem intoP_nat (k M : Nat) : intoP k M = k % M := by
  unfold intoP
  have : (k : Int).tmod M = ((k % M : Nat) : Int) := by rw [Int.ofNat_tmod]
  rw [this, if_neg (by omega)]
  exact Int.toNat_natCast _

theorem into_any (x : Int) (M : Nat) (w : World) (h0 : 0 < M) (h1 : M ≤ 1000000) :
    Calls Try.prog 10 #[.int .i64 x, .int .i64 M] w fun e w' => e = .returned (.int .i64 (intoP x M)) ∧ w' = w := by
  have b1 : x.tmod M < M := Int.tmod_lt_of_pos _ (by omega)
  have b2 : -(M : Int) < x.tmod M := by
    have := Int.lt_tmod_of_pos x (b := (M : Int)) (by omega)
    omega
  have hM : ¬ ((M : Int) = 0) := by omega
  have hp : (intoP x M : Int) = if x.tmod M < 0 then x.tmod M + M else x.tmod M := by
    unfold intoP
    split <;> omega
  generalize intoP x M = p at hp
  obtain ⟨r, hr⟩ : ∃ r, r = x.tmod M := ⟨_, rfl⟩
  rw [← hr] at b1 b2 hp
  have ht : x.tmod (M : Int) = r := hr.symm
  clear hr
  by_cases hn : r < 0
  · rw [if_pos hn] at hp
    have hp' : r + (M : Int) = (p : Int) := hp.symm
    clear hp
    go_enter Try.func10, Try.ntmps10
    go_wp2
    go_ret
    exact ⟨by first | rfl | (simp; omega), rfl⟩
  · rw [if_neg hn] at hp
    have hp' : r = (p : Int) := hp.symm
    subst hp'
    clear hp
    go_enter Try.func10, Try.ntmps10
    go_wp2
    go_ret
    exact ⟨by first | rfl | (simp; omega), rfl⟩

def eF (k : Nat) : Int := if k % 2 = 1 then 1 + ((k / 2) % 8 : Nat) else 0
def eT (k : Nat) : Int := if k % 2 = 1 then 0 else 1 + ((k / 2) % 8 : Nat)
theorem ends_joins (k : Nat) (cl : Int) (h : 8 ≤ cl) : joinsP cl (eF k) (eT k) = true := by
  unfold joinsP eF eT
  by_cases hk : k % 2 = 1
  · rw [if_pos hk, if_pos hk]
    exact decide_eq_true (.inr ⟨rfl, by omega, by omega⟩)
  · rw [if_neg hk, if_neg hk]
    exact decide_eq_true (.inl ⟨rfl, by omega, by omega⟩)

set_option maxHeartbeats 1000000 in
theorem ends_any (k : Nat) (w : World) (hk : k ≤ 1000000) : Calls Try.prog 11 #[.int .i64 k] w fun e w' => e = .returned (.tuple #[.int .i64 (eF k), .int .i64 (eT k)]) ∧ w' = w := by
  have q1 : (k : Int).tdiv 2 = ((k / 2 : Nat) : Int) := by
    have : (2 : Int) = ((2 : Nat) : Int) := rfl
    rw [this, Int.ofNat_tdiv]
  have q2 : (k : Int).tmod 2 = ((k % 2 : Nat) : Int) := by
    have : (2 : Int) = ((2 : Nat) : Int) := rfl
    rw [this, Int.ofNat_tmod]
  have hI : Hid (∀ w, Calls Try.prog 10 #[.int .i64 ((k / 2 : Nat) : Int), .int .i64 8] w fun e w' => e = .returned (.int .i64 ((k / 2) % 8 : Nat)) ∧ w' = w) := fun w => by
    have := into_any ((k / 2 : Nat) : Int) 8 w (by omega) (by omega)
    rw [intoP_nat] at this
    exact this
  obtain ⟨p, hp⟩ : ∃ p, (k / 2) % 8 = p := ⟨_, rfl⟩
  have hp8 : p < 8 := by omega
  obtain ⟨m, hm⟩ : ∃ m, k / 2 = m := ⟨_, rfl⟩
  have hm6 : m ≤ 1000000 := by omega
  obtain ⟨r, hr⟩ : ∃ r, k % 2 = r := ⟨_, rfl⟩
  have H1 : Hid (eF k = if r = 1 then 1 + (p : Int) else 0) := by show _ = _; unfold eF; rw [hr, hp]
  have H2 : Hid (eT k = if r = 1 then 0 else 1 + (p : Int)) := by show _ = _; unfold eT; rw [hr, hp]
  rw [hm] at q1 hI
  rw [hr] at q2
  have hr2 : r = 0 ∨ r = 1 := by omega
  have hI2 : Hid (∀ w, Calls Try.prog 10 #[.int .i64 m, .int .i64 8] w fun e w' => e = .returned (.int .i64 p) ∧ w' = w) := fun w => by
    have := hI.out w
    rw [← hm, hp] at this
    rw [← hm]
    exact this
  clear hI hp hm hr
  rcases hr2 with rfl | rfl
  · go_enter Try.func11, Try.ntmps11
    go_wp2_with fail
    refine (hI2.out _).mono ?_
    rintro e w1 ⟨rfl, rfl⟩
    go_wp2
    refine bodyPost_ret (v := .tuple #[.int .i64 0, .int .i64 (1 + (p : Int))]) (by simp [results, Try.results11, go_sem]) rfl ?_
    rw [H1.out, H2.out]
    exact ⟨rfl, rfl⟩
  · go_enter Try.func11, Try.ntmps11
    go_wp2_with fail
    refine (hI2.out _).mono ?_
    rintro e w1 ⟨rfl, rfl⟩
    go_wp2
    refine bodyPost_ret (v := .tuple #[.int .i64 (1 + (p : Int)), .int .i64 0]) (by simp [results, Try.results11, go_sem]) rfl ?_
    rw [H1.out, H2.out]
    exact ⟨rfl, rfl⟩

theorem same_true (a a' : Option Addr) (n c c' : Nat) (xs : List Int) (w : World) (h : IsB w a n c xs) (h' : IsB w a' n c' xs) :
    Calls Try.prog 22 #[.slice a n c, .slice a' n c'] w fun e w' => e = .returned (.bool true) ∧ ∃ m, w' = w.drewN m := by
  obtain ⟨h1, h2, h3, h4⟩ := h
  obtain ⟨-, h2', h3', h4'⟩ := h'
  go_enter Try.func22, Try.ntmps22
  go_wp2
  go_loopw [5] (fun i wr => ∃ k m : Nat, k ≤ n ∧ i = .int .i64 k ∧ wr = w.drewN m) (fun i _ => n - (intOf i).toNat)
  case atStart => exact ⟨0, 0, Nat.zero_le _, rfl, rfl⟩
  case round =>
    obtain ⟨k, m, hk, rfl, rfl⟩ := hrel
    by_cases hlt : k < n
    · obtain ⟨b, off, rfl, hb, hc⟩ := h4 (by omega)
      obtain ⟨b', off', rfl, hb', hc'⟩ := h4' (by omega)
      have e1 := hc k hlt
      have e2 := hc' k hlt
      have hi : (k : Int) < (n : Int) := by omega
      clear hc hc' h4 h4'
      go_wp2
      go_quiet (fail)
      go_wp2
      exact ⟨⟨k + 1, m + nq, by omega, by go_num, rfl⟩, by simp [intOf]; omega⟩
    · clear h4 h4'
      go_wp2
      go_ret
      exact ⟨rfl, m, rfl⟩

set_option maxHeartbeats 2000000 in
theorem alike_true (d : DG) (a a' : Option Addr) (c c' : Nat) (w : World) (h : IsB w a d.b.length c d.b) (h' : IsB w a' d.b.length c' d.b) :
    Calls Try.prog 18 #[.agg #[.int .i64 d.f, .int .i64 d.t, .slice a d.b.length c, .bool d.s], .agg #[.int .i64 d.f, .int .i64 d.t, .slice a' d.b.length c', .bool d.s]] w fun e w' => e = .returned (.bool true) ∧ Below w.heap.size w w' := by
  have H := hd h
  have H' := hd h'
  clear h h'
  obtain ⟨f, t, b, s⟩ := d
  simp only at H H' ⊢
  go_enter Try.func18, Try.ntmps18
  go_wp2_with fail
  refine (same_true a a' _ c c' b _ (H.out.below ?_) (H'.out.below ?_)).mono ?_
  · exact ((Below.refl _ _).alloc (by simp) _).alloc (by simp) _
  · exact ((Below.refl _ _).alloc (by simp) _).alloc (by simp) _
  rintro e w1 ⟨rfl, m, rfl⟩
  go_wp2
  go_ret
  exact ⟨rfl, below_drewN (((Below.refl _ _).alloc (by simp) _).alloc (by simp) _) _⟩

/-- A list of datagrams to be read: L, each with its bytes. -/
def IsG (w : World) (a : Option Addr) (n c : Nat) (L : List It) : Prop := IsO w a n c L ∧ ∀ x ∈ L, IsB w x.a x.d.b.length x.c x.d.b
theorem IsG.below {w w' : World} {a : Option Addr} {n c : Nat} {L : List It} (h : IsG w a n c L) (hb : Below w.heap.size w w') : IsG w' a n c L := ⟨h.1.below hb, fun x hx => (h.2 x hx).below hb⟩

theorem FLk.isG {w : World} {lo hi : Nat} {β : Option Nat} {v : Value} {L : List It} (h : FLk w lo hi β v L) : ∃ a c, v = .slice a L.length c ∧ IsG w a L.length c L := by
  obtain ⟨a, c, hv, hI⟩ := h.so.form
  refine ⟨a, c, hv, hI, fun x hx => ?_⟩
  obtain ⟨a', c', hv', hB⟩ := (h.rows x hx).1.isB
  unfold It.sv at hv'
  injection hv' with q1 q2 q3
  rw [q1, q3]
  exact hB

set_option maxRecDepth 100000 in
set_option maxHeartbeats 4000000 in
theorem flights_true (a a' : Option Addr) (n c c' : Nat) (L L' : List It) (w : World) (h : IsG w a n c L) (h' : IsG w a' n c' L') (he : L.map It.d = L'.map It.d) :
    Calls Try.prog 20 #[.slice a n c, .slice a' n c'] w fun e w' => e = .returned (.bool true) ∧ Below w.heap.size w w' := by
  have H := hd h
  have H' := hd h'
  have HE := hd he
  obtain ⟨⟨h1, h2, h3, h4⟩, -⟩ := h
  obtain ⟨⟨h1', h2', h3', -⟩, -⟩ := h'
  have HL := hd (And.intro h1 h1')
  clear h4 he h1 h1'
  go_enter Try.func20, Try.ntmps20
  go_wp2
  go_loopw [5] (fun i wr => ∃ k : Nat, k ≤ n ∧ i = .int .i64 k ∧ Hid (Below w.heap.size w wr)) (fun i _ => n - (intOf i).toNat)
  case atStart => exact ⟨0, Nat.zero_le _, rfl, Below.refl _ _⟩
  case round =>
    obtain ⟨k, hk, rfl, hB⟩ := hrel
    by_cases hlt : k < n
    · have kL : k < L.length := by have := HL.out.1; omega
      have kL' : k < L'.length := by have := HL.out.2; omega
      have G1 := H.out.below hB.out
      have G2 := H'.out.below hB.out
      obtain ⟨b, off, rfl, hb⟩ := G1.1.addr (by omega)
      obtain ⟨b', off', rfl, hb'⟩ := G2.1.addr (by omega)
      obtain ⟨x0, x1, x2, x3⟩ := G1.1.at k hlt kL
      obtain ⟨y0, y1, y2, y3⟩ := G2.1.at k hlt kL'
      have e0 : L[k].d = L'[k].d := by
        have := congrArg (fun l => l[k]?) HE.out
        simpa [List.getElem?_eq_getElem kL, List.getElem?_eq_getElem kL'] using this
      have I1 := G1.2 L[k] (List.getElem_mem kL)
      have I2 := G2.2 L'[k] (List.getElem_mem kL')
      have i2 : (k : Int) < (n : Int) := by omega
      rw [e0] at x0 x1 x2 x3 I1
      generalize L[k].a = xa at *
      generalize L[k].c = xc at *
      generalize L'[k] = z at *
      obtain ⟨zd, za, zc, zg⟩ := z
      have A : Hid (∀ m, Calls Try.prog 18 #[.agg #[.int .i64 zd.f, .int .i64 zd.t, .slice xa zd.b.length xc, .bool zd.s], .agg #[.int .i64 zd.f, .int .i64 zd.t, .slice za zd.b.length zc, .bool zd.s]] (wr.drewN m) fun e w' => e = .returned (.bool true) ∧ Below wr.heap.size wr w') := fun m => by
        have b0 : Below wr.heap.size wr (wr.drewN m) := below_drewN (Below.refl _ _) _
        exact (alike_true zd xa za xc zc (wr.drewN m) (I1.below b0) (I2.below b0)).mono (fun e w' h => ⟨h.1, b0.trans h.2⟩)
      clear G1 G2 I1 I2 e0 kL kL'
      simp only at x0 x1 x2 x3 y0 y1 y2 y3
      go_wp2_with fail
      go_region_held3 (fun W => W.cell? ⟨b, off + k * 4, none⟩ = some (.int .i64 zd.f) ∧ W.cell? ⟨b, off + k * 4 + 1, none⟩ = some (.int .i64 zd.t) ∧ W.cell? ⟨b, off + k * 4 + 2, none⟩ = some (.slice xa zd.b.length xc) ∧ W.cell? ⟨b, off + k * 4 + 3, none⟩ = some (.bool zd.s) ∧ W.cell? ⟨b', off' + k * 4, none⟩ = some (.int .i64 zd.f) ∧ W.cell? ⟨b', off' + k * 4 + 1, none⟩ = some (.int .i64 zd.t) ∧ W.cell? ⟨b', off' + k * 4 + 2, none⟩ = some (.slice za zd.b.length zc) ∧ W.cell? ⟨b', off' + k * 4 + 3, none⟩ = some (.bool zd.s)) (first | (with_reducible exact ⟨by assumption, by assumption, by assumption, by assumption, by assumption, by assumption, by assumption, by assumption⟩) | (go_keep; done)) (first | (go_at_call 18; refine (A.out _).mono ?_; rintro e u ⟨rfl, bu⟩; have x0 := (bu.cell (p := ⟨b, off + k * 4, none⟩) hb).trans x0; have x1 := (bu.cell (p := ⟨b, off + k * 4 + 1, none⟩) hb).trans x1; have x2 := (bu.cell (p := ⟨b, off + k * 4 + 2, none⟩) hb).trans x2; have x3 := (bu.cell (p := ⟨b, off + k * 4 + 3, none⟩) hb).trans x3; have y0 := (bu.cell (p := ⟨b', off' + k * 4, none⟩) hb').trans y0; have y1 := (bu.cell (p := ⟨b', off' + k * 4 + 1, none⟩) hb').trans y1; have y2 := (bu.cell (p := ⟨b', off' + k * 4 + 2, none⟩) hb').trans y2; have y3 := (bu.cell (p := ⟨b', off' + k * 4 + 3, none⟩) hb').trans y3; have BU := hd bu; clear bu))
      have Z : Hid (Below w.heap.size w u) := hB.out.trans (BU.out.mono hB.out.size)
      go_wp2
      exact ⟨⟨k + 1, by omega, by go_num, Z⟩, by simp [intOf]; omega⟩
    · go_wp2
      go_ret
      exact ⟨rfl, hB.out⟩

end Go.Proofs.Ytnglcnilckolkaa
