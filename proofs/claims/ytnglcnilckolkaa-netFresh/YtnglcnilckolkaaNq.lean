/-
  One net alone, made by the call.
-/
import Derived.Test.YtnglcnilckolkaaNp
namespace Go.Proofs.Ytnglcnilckolkaa
open Go.RowKit
set_option linter.unusedVariables false

/-- The net at block x, made since w0; all that was there in w0 is as it was. -/
def ST (w0 w : World) (x : Nat) (cl : Int) (G : List DG) (B : Nat) : Prop := ∃ S, NB w x cl G B S ∧ (∀ k, S k → w0.heap.size ≤ k) ∧ Below w0.heap.size w0 w

theorem ST.base {w0 w : World} {x : Nat} {cl : Int} {G : List DG} {B : Nat} (h : ST w0 w x cl G B) : Below w0.heap.size w0 w := by
  obtain ⟨S, h1, h2, h3⟩ := h
  exact h3
theorem ST.mono {w0 w : World} {x : Nat} {cl : Int} {G : List DG} {B B' : Nat} (h : ST w0 w x cl G B) (hB : B ≤ B') : ST w0 w x cl G B' := by
  obtain ⟨S, h1, h2, h3⟩ := h
  exact ⟨S, h1.mono hB, h2, h3⟩
theorem ST.few {w0 w : World} {x : Nat} {cl : Int} {G : List DG} {B : Nat} (h : ST w0 w x cl G B) : G.length ≤ 2048 := by
  obtain ⟨S, h1, h2, h3⟩ := h
  exact h1.few
theorem ST.below {w0 w w' : World} {x : Nat} {cl : Int} {G : List DG} {B : Nat} (h : ST w0 w x cl G B) (hb : Below w.heap.size w w') : ST w0 w' x cl G B := by
  obtain ⟨S, h1, h2, h3⟩ := h
  exact ⟨S, h1.below hb, h2, h3.trans (hb.mono h3.size)⟩
theorem ST.now {w0 w w' : World} {x : Nat} {cl : Int} {G' : List DG} {B' : Nat} {S : Nat → Prop} (h2 : ∀ k, S k → w0.heap.size ≤ k) (h3 : Below w0.heap.size w0 w) (h : NowB w w' x cl G' B' S) : ST w0 w' x cl G' B' := by
  obtain ⟨S', k1, k2, k3⟩ := h
  have := h3.size
  exact ⟨S', k1, fun k hk => (k2 k hk).elim (h2 k) (fun h => by omega), h3.trans (k3.below h3.size h2)⟩

theorem st_new (c : Int) (w : World) (h : 1 ≤ c ∧ c ≤ 64) : Calls Try.prog 9 #[.int .i64 c] w fun e w' => ∃ x, e = .returned (.tuple #[.pointer (some ⟨x, 0, none⟩), .int .i64 0]) ∧ ST w w' x c [] 0 :=
  (new_good c w h).mono (fun e w' h => by
    obtain ⟨x, he, S, h1, h2, h3⟩ := h
    exact ⟨x, he, S, ⟨0, Nat.le_refl _, h1⟩, h2, h3⟩)

theorem st_count {w0 w : World} {x : Nat} {cl : Int} {G : List DG} {B : Nat} (h : ST w0 w x cl G B) : Calls Try.prog 13 #[.pointer (some ⟨x, 0, none⟩)] w fun e w' => e = .returned (.int .i64 G.length) ∧ w' = w := by
  obtain ⟨S, h1, h2, h3⟩ := h
  exact count_any x cl G B S w h1

theorem st_send {w0 w : World} {x : Nat} {cl : Int} {G : List DG} {B : Nat} (h : ST w0 w x cl G B) (hB : B < 1000000000) (f t : Int) (a : Option Addr) (n c : Nat) (b : List Int) (hb : IsB w a n c b) :
    Calls Try.prog 12 #[.pointer (some ⟨x, 0, none⟩), .int .i64 f, .int .i64 t, .slice a n c] w fun e w' => e = .returned (.int .i64 (sendE cl G.length f t n)) ∧ ST w0 w' x cl (sendG cl G f t b) (B + 1) ∧ Below w0.heap.size w w' := by
  obtain ⟨S, h1, h2, h3⟩ := h
  refine (send_any x cl G B S w h1 hB f t a n c b hb).mono (fun e w' h => ⟨h.1, ST.now h2 h3 h.2, ?_⟩)
  obtain ⟨S', k1, k2, k3⟩ := h.2
  exact k3.below h3.size h2

theorem st_double {w0 w : World} {x : Nat} {cl : Int} {G : List DG} {B : Nat} (h : ST w0 w x cl G B) (hB : B < 1000000000) (i : Int) :
    Calls Try.prog 15 #[.pointer (some ⟨x, 0, none⟩), .int .i64 i] w fun e w' => e = .returned (.int .i64 (doubleE G.length i)) ∧ ST w0 w' x cl (doubleG G i) (B + 1) := by
  obtain ⟨S, h1, h2, h3⟩ := h
  exact (double_any x cl G B S w h1 hB i).mono (fun e w' h => ⟨h.1, ST.now h2 h3 h.2⟩)

theorem st_drop {w0 w : World} {x : Nat} {cl : Int} {G : List DG} {B : Nat} (h : ST w0 w x cl G B) (i : Nat) (hi : i < G.length) :
    Calls Try.prog 16 #[.pointer (some ⟨x, 0, none⟩), .int .i64 i] w fun e w' => e = .returned (.int .i64 0) ∧ ST w0 w' x cl (without G i) B := by
  obtain ⟨S, h1, h2, h3⟩ := h
  exact (drop_good x cl G B S w h1 i hi).mono (fun e w' h => ⟨h.1, S, h.2.1, h2, h3.trans (h.2.2.below h3.size h2)⟩)

theorem st_deliver {w0 w : World} {x : Nat} {cl : Int} {G : List DG} {B : Nat} (h : ST w0 w x cl G B) (i : Nat) (hi : i < G.length) :
    Calls Try.prog 17 #[.pointer (some ⟨x, 0, none⟩), .int .i64 i] w fun e w' => ∃ a c, e = .returned (.tuple #[.agg #[.int .i64 (G.getD i zDG).f, .int .i64 (G.getD i zDG).t, .slice a (G.getD i zDG).b.length c, .bool (G.getD i zDG).s], .int .i64 0]) ∧ IsB w' a (G.getD i zDG).b.length c (G.getD i zDG).b ∧ ST w0 w' x cl (without G i) B := by
  obtain ⟨S, h1, h2, h3⟩ := h
  refine (deliver_good x cl G B S w h1 i hi).mono ?_
  rintro e w' ⟨v, rfl, γ, k1, k2, k3, k4⟩
  obtain ⟨a, c, rfl, hB⟩ := k1.isB
  exact ⟨a, c, rfl, hB, S, k3, h2, h3.trans (k4.below h3.size h2)⟩

theorem flip_any (x : Nat) (cl : Int) (G : List DG) (B : Nat) (S : Nat → Prop) (w : World) (h : NB w x cl G B S) (i at_ mask : Int) :
    Calls Try.prog 19 #[.pointer (some ⟨x, 0, none⟩), .int .i64 i, .int .i64 at_, .int .i64 mask] w fun e w' => e = .returned (.int .i64 (flipE G i at_ mask)) ∧ NB w' x cl (flipG G i at_ mask) B S ∧ Fr S w w' := by
  by_cases hi : isAt G.length i
  · obtain ⟨j, rfl⟩ : ∃ j : Nat, i = j := ⟨i.toNat, by have := hi.1; omega⟩
    exact flip_at x cl G B S w h j at_ mask (by have := hi.2; omega)
  · have he : flipE G i at_ mask = 74 := by unfold flipE; rw [if_neg hi]
    refine (flip_none x cl G B S w h i at_ mask hi).mono ?_
    rintro e w' ⟨rfl, rfl⟩
    exact ⟨by rw [he], by rw [flipG_no (by rw [he]; decide)]; exact h, Fr.refl _ _⟩

theorem st_flip {w0 w : World} {x : Nat} {cl : Int} {G : List DG} {B : Nat} (h : ST w0 w x cl G B) (i at_ mask : Int) :
    Calls Try.prog 19 #[.pointer (some ⟨x, 0, none⟩), .int .i64 i, .int .i64 at_, .int .i64 mask] w fun e w' => e = .returned (.int .i64 (flipE G i at_ mask)) ∧ ST w0 w' x cl (flipG G i at_ mask) B := by
  obtain ⟨S, h1, h2, h3⟩ := h
  exact (flip_any x cl G B S w h1 i at_ mask).mono (fun e w' h => ⟨h.1, S, h.2.1, h2, h3.trans (h.2.2.below h3.size h2)⟩)

theorem st_flight {w0 w : World} {x : Nat} {cl : Int} {G : List DG} {B : Nat} (h : ST w0 w x cl G B) :
    Calls Try.prog 21 #[.pointer (some ⟨x, 0, none⟩)] w fun e w' => ∃ a c L, e = .returned (.slice a G.length c) ∧ IsG w' a G.length c L ∧ L.map It.d = G ∧ ST w0 w' x cl G B ∧ Below w.heap.size w w' := by
  obtain ⟨S, h1, h2, h3⟩ := h
  refine (flight_any x cl G B S w h1).mono ?_
  rintro e w' ⟨v, rfl, ⟨β, L, hF, hL⟩, hb⟩
  obtain ⟨a, c, hv, hG⟩ := hF.isG
  have hl : L.length = G.length := by rw [← hL]; simp
  rw [hl] at hv hG
  exact ⟨a, c, L, by rw [hv], hG, hL, ⟨S, h1.below hb, h2, h3.trans (hb.mono h3.size)⟩, hb⟩

end Go.Proofs.Ytnglcnilckolkaa
