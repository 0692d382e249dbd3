/-
  NetFresh: two nets and the memory of the law beside them.
-/
import Derived.Test.YtnglcnilckolkaaGf
namespace Go.Proofs.Ytnglcnilckolkaa
open Go.RowKit
set_option linter.unusedVariables false

/-- Two nets made since w0 that share nothing; F: blocks that are neither net's; all that was there in w0 is as it was. -/
def TW (w0 w : World) (x y : Nat) (Gx : List DG) (Bx : Nat) (Gy : List DG) (By : Nat) (F : Nat → Prop) : Prop :=
  ∃ Sx Sy, NB w x 2 Gx Bx Sx ∧ NB w y 2 Gy By Sy ∧ (∀ k, Sx k → ¬ Sy k) ∧ (∀ k, F k → ¬ Sx k ∧ ¬ Sy k ∧ k < w.heap.size) ∧ (∀ k, Sx k → w0.heap.size ≤ k) ∧ (∀ k, Sy k → w0.heap.size ≤ k) ∧ Below w0.heap.size w0 w

/-- What a call of a net leaves as it was: all of w0, and F. -/
def Kp (w0 : World) (F : Nat → Prop) (w w' : World) : Prop := Fr (fun k => w0.heap.size ≤ k ∧ ¬ F k) w w'

theorem TW.swap {w0 w : World} {x y : Nat} {Gx Gy : List DG} {Bx By : Nat} {F : Nat → Prop} (h : TW w0 w x y Gx Bx Gy By F) : TW w0 w y x Gy By Gx Bx F := by
  obtain ⟨Sx, Sy, h1, h2, h3, h4, h5, h6, h7⟩ := h
  exact ⟨Sy, Sx, h2, h1, fun k hk hk' => h3 k hk' hk, fun k hk => ⟨(h4 k hk).2.1, (h4 k hk).1, (h4 k hk).2.2⟩, h6, h5, h7⟩
theorem TW.base {w0 w : World} {x y : Nat} {Gx Gy : List DG} {Bx By : Nat} {F : Nat → Prop} (h : TW w0 w x y Gx Bx Gy By F) : Below w0.heap.size w0 w := by
  obtain ⟨Sx, Sy, h1, h2, h3, h4, h5, h6, h7⟩ := h
  exact h7
theorem TW.sub {w0 w : World} {x y : Nat} {Gx Gy : List DG} {Bx By : Nat} {F F' : Nat → Prop} (h : TW w0 w x y Gx Bx Gy By F) (hF : ∀ k, F' k → F k) : TW w0 w x y Gx Bx Gy By F' := by
  obtain ⟨Sx, Sy, h1, h2, h3, h4, h5, h6, h7⟩ := h
  exact ⟨Sx, Sy, h1, h2, h3, fun k hk => h4 k (hF k hk), h5, h6, h7⟩
theorem Kp.trans {w0 a b c : World} {F : Nat → Prop} (h : Kp w0 F a b) (k : Kp w0 F b c) : Kp w0 F a c := Fr.trans h k

/-- The law writes into blocks of its own, or makes new ones: these are its own too. -/
theorem TW.own {w0 w w' : World} {x y : Nat} {Gx Gy : List DG} {Bx By : Nat} {F : Nat → Prop} (h : TW w0 w x y Gx Bx Gy By F) (hF : Fr (fun k => F k ∧ w0.heap.size ≤ k) w w') : TW w0 w' x y Gx Bx Gy By (fun k => F k ∨ (w.heap.size ≤ k ∧ k < w'.heap.size)) := by
  obtain ⟨Sx, Sy, h1, h2, h3, h4, h5, h6, h7⟩ := h
  have hs := hF.size
  refine ⟨Sx, Sy, h1.fr hF (fun k hk hk' => (h4 k hk'.1).1 hk), h2.fr hF (fun k hk hk' => (h4 k hk'.1).2.1 hk), h3, ?_, h5, h6, h7.trans (hF.below h7.size (fun k hk => hk.2))⟩
  rintro k (hk | hk)
  · exact ⟨(h4 k hk).1, (h4 k hk).2.1, by have := (h4 k hk).2.2; omega⟩
  · exact ⟨fun h => by have := h1.old k h; omega, fun h => by have := h2.old k h; omega, hk.2⟩

theorem tw_new (w : World) : Calls Try.prog 9 #[.int .i64 2] w fun e w' => ∃ x, e = .returned (.tuple #[.pointer (some ⟨x, 0, none⟩), .int .i64 0]) ∧ ∃ S, NB w' x 2 [] 0 S ∧ (∀ k, S k → w.heap.size ≤ k) ∧ Below w.heap.size w w' :=
  (new_good 2 w (by omega)).mono (fun e w' h => by
    obtain ⟨x, he, S, h1, h2, h3⟩ := h
    exact ⟨x, he, S, ⟨0, Nat.le_refl _, h1⟩, h2, h3⟩)

/-- Two nets made one behind the other, the world w1 before them. -/
theorem tw_of {w0 w1 u v : World} {x y : Nat} {Sx Sy : Nat → Prop} (h0 : Below w0.heap.size w0 w1) (hx : NB u x 2 [] 0 Sx) (kx : ∀ k, Sx k → w1.heap.size ≤ k) (bx : Below w1.heap.size w1 u) (hy : NB v y 2 [] 0 Sy) (ky : ∀ k, Sy k → u.heap.size ≤ k) (by_ : Below u.heap.size u v) : TW w0 v x y [] 0 [] 0 (fun k => k < w1.heap.size) := by
  have s0 := h0.size
  have s1 := bx.size
  have s2 := by_.size
  refine ⟨Sx, Sy, hx.below by_, hy, fun k hk hk' => ?_, fun k hk => ⟨fun h => ?_, fun h => ?_, ?_⟩, fun k hk => ?_, fun k hk => ?_, h0.trans ((bx.trans (by_.mono s1)).mono s0)⟩
  · have := hx.old k hk
    have := ky k hk'
    omega
  · have := kx k h
    omega
  · have := ky k h
    omega
  · omega
  · have := kx k hk
    omega
  · have := ky k hk
    omega

theorem tw_send {w0 w : World} {x y : Nat} {Gx Gy : List DG} {Bx By : Nat} {F : Nat → Prop} (h : TW w0 w x y Gx Bx Gy By F) (hB : Bx < 1000000000) (f t : Int) (a : Option Addr) (n c : Nat) (b : List Int) (hb : IsB w a n c b) :
    Calls Try.prog 12 #[.pointer (some ⟨x, 0, none⟩), .int .i64 f, .int .i64 t, .slice a n c] w fun e w' => e = .returned (.int .i64 (sendE 2 Gx.length f t n)) ∧ TW w0 w' x y (sendG 2 Gx f t b) (Bx + 1) Gy By F ∧ Kp w0 F w w' := by
  obtain ⟨Sx, Sy, h1, h2, h3, h4, h5, h6, h7⟩ := h
  refine (send_any x 2 Gx Bx Sx w h1 hB f t a n c b hb).mono (fun e w' h => ⟨h.1, ?_, ?_⟩)
  · obtain ⟨S', k1, k2, k3⟩ := h.2
    have hs := k3.size
    have h7s := h7.size
    refine ⟨S', Sy, k1, h2.fr k3 (fun k hk hk' => h3 k hk' hk), fun k hk hk' => ?_, fun k hk => ⟨fun hk' => ?_, (h4 k hk).2.1, by have := (h4 k hk).2.2; omega⟩, fun k hk => ?_, h6, h7.trans (k3.below h7.size h5)⟩
    · rcases k2 k hk with h | h
      · exact h3 k h hk'
      · have := h2.old k hk'
        omega
    · rcases k2 k hk' with h | h
      · exact (h4 k hk).1 h
      · have := (h4 k hk).2.2
        omega
    · rcases k2 k hk with h | h
      · exact h5 k h
      · omega
  · obtain ⟨S', k1, k2, k3⟩ := h.2
    exact k3.mono (fun k _ hk => ⟨h5 k hk, fun hF => (h4 k hF).1 hk⟩)

theorem tw_flight {w0 w : World} {x y : Nat} {Gx Gy : List DG} {Bx By : Nat} {F : Nat → Prop} (h : TW w0 w x y Gx Bx Gy By F) :
    Calls Try.prog 21 #[.pointer (some ⟨x, 0, none⟩)] w fun e w' => ∃ E : Ent, e = .returned E.v ∧ FE w' E ∧ E.lo = w.heap.size ∧ E.hi = w'.heap.size ∧ E.L.map It.d = Gx ∧ TW w0 w' x y Gx Bx Gy By (fun k => F k ∨ (w.heap.size ≤ k ∧ k < w'.heap.size)) ∧ Below w.heap.size w w' := by
  have h' := h
  obtain ⟨Sx, Sy, h1, h2, h3, h4, h5, h6, h7⟩ := h
  refine (flight_any x 2 Gx Bx Sx w h1).mono ?_
  rintro e w' ⟨v, rfl, hF, hb⟩
  obtain ⟨E, e1, e2, e3, e4, e5⟩ := FE.of hF
  exact ⟨E, by rw [e4], e1, e2, e3, e5, h'.own (Fr.of_below hb), hb⟩

theorem tw_deliver {w0 w : World} {x y : Nat} {Gx Gy : List DG} {Bx By : Nat} {F : Nat → Prop} (h : TW w0 w x y Gx Bx Gy By F) (i : Nat) (hi : i < Gx.length) :
    Calls Try.prog 17 #[.pointer (some ⟨x, 0, none⟩), .int .i64 i] w fun e w' => ∃ γ c, e = .returned (.tuple #[dgv (Gx.getD i zDG) (.slice (at0 γ) (Gx.getD i zDG).b.length c), .int .i64 0]) ∧ TR w' γ c (Gx.getD i zDG).b ∧ (∀ g, γ = some g → w.heap.size ≤ g) ∧
      TW w0 w' x y (without Gx i) Bx Gy By (fun k => F k ∨ (w.heap.size ≤ k ∧ k < w'.heap.size)) ∧ Kp w0 F w w' := by
  obtain ⟨Sx, Sy, h1, h2, h3, h4, h5, h6, h7⟩ := h
  refine (deliver_good x 2 Gx Bx Sx w h1 i hi).mono ?_
  rintro e w' ⟨v, rfl, γ, k1, k2, k3, k4⟩
  obtain ⟨c, rfl, hT⟩ := k1.tr
  have hs := k4.size
  refine ⟨γ, c, rfl, hT, k2, ⟨Sx, Sy, k3, h2.fr k4 (fun k hk hk' => h3 k hk' hk), h3, ?_, h5, h6, h7.trans (k4.below h7.size h5)⟩, k4.mono (fun k _ hk => ⟨h5 k hk, fun hF => (h4 k hF).1 hk⟩)⟩
  rintro k (hk | hk)
  · exact ⟨(h4 k hk).1, (h4 k hk).2.1, by have := (h4 k hk).2.2; omega⟩
  · exact ⟨fun h => by have := h1.old k h; omega, fun h => by have := h2.old k h; omega, hk.2⟩

theorem tw_double {w0 w : World} {x y : Nat} {Gx Gy : List DG} {Bx By : Nat} {F : Nat → Prop} (h : TW w0 w x y Gx Bx Gy By F) (hB : Bx < 1000000000) (i : Int) :
    Calls Try.prog 15 #[.pointer (some ⟨x, 0, none⟩), .int .i64 i] w fun e w' => e = .returned (.int .i64 (doubleE Gx.length i)) ∧ TW w0 w' x y (doubleG Gx i) (Bx + 1) Gy By F ∧ Kp w0 F w w' := by
  obtain ⟨Sx, Sy, h1, h2, h3, h4, h5, h6, h7⟩ := h
  refine (double_any x 2 Gx Bx Sx w h1 hB i).mono (fun e w' h => ⟨h.1, ?_, ?_⟩)
  · obtain ⟨S', k1, k2, k3⟩ := h.2
    have hs := k3.size
    have h7s := h7.size
    refine ⟨S', Sy, k1, h2.fr k3 (fun k hk hk' => h3 k hk' hk), fun k hk hk' => ?_, fun k hk => ⟨fun hk' => ?_, (h4 k hk).2.1, by have := (h4 k hk).2.2; omega⟩, fun k hk => ?_, h6, h7.trans (k3.below h7.size h5)⟩
    · rcases k2 k hk with h | h
      · exact h3 k h hk'
      · have := h2.old k hk'
        omega
    · rcases k2 k hk' with h | h
      · exact (h4 k hk).1 h
      · have := (h4 k hk).2.2
        omega
    · rcases k2 k hk with h | h
      · exact h5 k h
      · omega
  · obtain ⟨S', k1, k2, k3⟩ := h.2
    exact k3.mono (fun k _ hk => ⟨h5 k hk, fun hF => (h4 k hF).1 hk⟩)

end Go.Proofs.Ytnglcnilckolkaa
