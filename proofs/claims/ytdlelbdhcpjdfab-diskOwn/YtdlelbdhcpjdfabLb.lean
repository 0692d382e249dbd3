/-
  What a step makes of a file, said without memory; and Append, Cut, Crash, act by it.
-/
import Derived.Test.YtdlelbdhcpjdfabDe
import Derived.Test.YtdlelbdhcpjdfabDf
import Derived.Test.YtdlelbdhcpjdfabLa
namespace Go.Proofs.Ytdlelbdhcpjdfab
open Go.RowKit
set_option linter.unusedVariables false

structure OpV where
  kind : Int
  site : Int
  a : Int
  b : Int
  c : Int
  xs : List Int

/-- An answer, the bytes, how many are synced. -/
structure St where
  e : Int
  B : List Int
  s : Nat

def appP (xs B : List Int) (s : Nat) : St := if B.length + xs.length ≤ 262144 then ⟨0, B ++ xs, s⟩ else ⟨20, B, s⟩
def cutP (n : Int) (B : List Int) (s : Nat) : St := if 0 ≤ n ∧ n ≤ B.length then ⟨0, B.take n.toNat, min s n.toNat⟩ else ⟨23, B, s⟩
def crashP (keep at_ mask : Int) (B : List Int) (s : Nat) : St :=
  if keep < 0 ∨ ((B.length - s : Nat) : Int) < keep then ⟨21, B, s⟩
  else if mask = 0 then ⟨0, B.take (s + keep.toNat), s + keep.toNat⟩
  else if 0 ≤ mask ∧ mask ≤ 255 ∧ 0 ≤ at_ ∧ at_ < keep then ⟨0, (B.take (s + keep.toNat)).set (s + at_.toNat) (xorB (B.getD (s + at_.toNat) 0) mask), s + keep.toNat⟩
  else ⟨22, B, s⟩
def byteOf (b : Int) : Int := b % 256
def stepP (o : OpV) (B : List Int) (s : Nat) : St :=
  if o.kind = 3 then appP o.xs B s
  else if o.kind = 10 then appP (List.replicate (fillN o.a) (byteOf o.b)) B s
  else if o.kind = 4 then ⟨0, B, B.length⟩
  else if o.kind = 5 then cutP o.a B s
  else if o.kind = 6 then crashP o.a o.b o.c B s
  else ⟨0, B, s⟩

/-- The file at r is now as t says; its room is where it was or new, and nothing else has turned. -/
def Now (w w' : World) (r : Nat) (ρ : Option Nat) (t : St) : Prop := ∃ ρ', DK w' r ρ' t.B t.s ∧ Moved w ρ ρ' ∧ Fr (Own r ρ) w w'

theorem Now.of_fr {w w' : World} {r : Nat} {ρ : Option Nat} {t : St} (h : DK w' r ρ t.B t.s) (hF : Fr (· = r) w w') : Now w w' r ρ t :=
  ⟨ρ, h, .inl rfl, hF.mono (fun k _ e => .inl e)⟩

theorem Now.drewN {w w' : World} {r : Nat} {ρ : Option Nat} {t : St} (h : DK w r ρ t.B t.s) (hw : ∃ m, w' = w.drewN m) : Now w w' r ρ t := by
  obtain ⟨m, rfl⟩ := hw
  exact Now.of_fr (h.drewN m) (Fr.drewN _ _ _)

/-- What was made ahead of the step, out of the way. -/
theorem Now.after {w w1 w' : World} {r : Nat} {ρ : Option Nat} {t : St} (h : Now w1 w' r ρ t) (hb : Below w.heap.size w w1) : Now w w' r ρ t := by
  obtain ⟨ρ', h1, h2, h3⟩ := h
  refine ⟨ρ', h1, ?_, (Fr.of_below hb).next h3 (fun i _ h => h)⟩
  rcases h2 with e | ⟨p, e, hp⟩
  · exact .inl e
  · exact .inr ⟨p, e, Nat.le_trans hb.size hp⟩

theorem append_any (r : Nat) (ρ : Option Nat) (B : List Int) (s : Nat) (a : Option Addr) (n c : Nat) (xs : List Int) (w : World) (h : DK w r ρ B s) (hx : IsB w a n c xs) (hxr : 0 < n → ∀ b off, a = some ⟨b, off, none⟩ → ¬ b = r) :
    Calls Try.prog 14 #[.pointer (some ⟨r, 0, none⟩), .slice a n c] w fun x w' => x = .returned (.int .i64 (appP xs B s).e) ∧ Now w w' r ρ (appP xs B s) := by
  have hl := hx.1
  unfold appP
  by_cases hn : B.length + xs.length ≤ 262144
  · rw [if_pos hn]
    exact append_good r ρ B s a n c xs w h hx hxr (by omega)
  · rw [if_neg hn]
    refine (append_bad r ρ B s a n c w h (by omega)).mono ?_
    rintro x w' ⟨rfl, rfl⟩
    exact ⟨rfl, Now.of_fr (t := ⟨20, B, s⟩) h (Fr.refl _ _)⟩

theorem cut_any (r : Nat) (ρ : Option Nat) (B : List Int) (s : Nat) (n : Int) (w : World) (h : DK w r ρ B s) :
    Calls Try.prog 24 #[.pointer (some ⟨r, 0, none⟩), .int .i64 n] w fun x w' => x = .returned (.int .i64 (cutP n B s).e) ∧ Now w w' r ρ (cutP n B s) := by
  unfold cutP
  by_cases hn : 0 ≤ n ∧ n ≤ B.length
  · rw [if_pos hn]
    obtain ⟨q, rfl⟩ := Int.eq_ofNat_of_zero_le hn.1
    refine (cut_good r ρ B s q w h (by omega)).mono ?_
    rintro x w' ⟨rfl, h1, h2⟩
    exact ⟨rfl, Now.of_fr (t := ⟨0, _, _⟩) h1 h2⟩
  · rw [if_neg hn]
    refine (cut_bad r ρ B s n w h (by omega)).mono ?_
    rintro x w' ⟨rfl, rfl⟩
    exact ⟨rfl, Now.of_fr (t := ⟨23, B, s⟩) h (Fr.refl _ _)⟩

theorem crash_any (r : Nat) (ρ : Option Nat) (B : List Int) (s : Nat) (keep at_ mask : Int) (w : World) (h : DK w r ρ B s) :
    Calls Try.prog 25 #[.pointer (some ⟨r, 0, none⟩), .int .i64 keep, .int .i64 at_, .int .i64 mask] w fun x w' => x = .returned (.int .i64 (crashP keep at_ mask B s).e) ∧ Now w w' r ρ (crashP keep at_ mask B s) := by
  unfold crashP
  by_cases hk : keep < 0 ∨ ((B.length - s : Nat) : Int) < keep
  · rw [if_pos hk]
    refine (crash_keep r ρ B s keep at_ mask w h hk).mono ?_
    rintro x w' ⟨rfl, hw⟩
    exact ⟨rfl, Now.drewN (t := ⟨21, B, s⟩) h hw⟩
  · rw [if_neg hk]
    obtain ⟨k, rfl⟩ := Int.eq_ofNat_of_zero_le (show 0 ≤ keep by omega)
    by_cases hm : mask = 0
    · rw [if_pos hm]
      subst hm
      refine (crash_plain r ρ B s k at_ w h (by omega)).mono ?_
      rintro x w' ⟨rfl, h1, h2⟩
      exact ⟨rfl, Now.of_fr (t := ⟨0, _, _⟩) h1 h2⟩
    · rw [if_neg hm]
      by_cases hg : 0 ≤ mask ∧ mask ≤ 255 ∧ 0 ≤ at_ ∧ at_ < (k : Int)
      · rw [if_pos hg]
        obtain ⟨j, rfl⟩ := Int.eq_ofNat_of_zero_le hg.2.2.1
        obtain ⟨p, rfl⟩ : ∃ p, ρ = some p := by
          cases ρ with
          | some p => exact ⟨p, rfl⟩
          | none =>
            obtain ⟨R, _, hR, h1, h2, _⟩ := h
            have hR' : R = [] := hR
            rw [hR'] at h2
            simp at h2
            rw [h2] at hk
            simp at hk
            omega
        refine (crash_mask r p B s k j mask w h (by omega) (by omega) hm ⟨hg.1, hg.2.1⟩ _ rfl).mono ?_
        rintro x w' ⟨rfl, h1, h2⟩
        exact ⟨rfl, some p, h1, .inl rfl, h2⟩
      · rw [if_neg hg]
        refine (crash_garble r ρ B s k at_ mask w h (by omega) (by omega) hm hg).mono ?_
        rintro x w' ⟨rfl, hw⟩
        exact ⟨rfl, Now.drewN (t := ⟨22, B, s⟩) h hw⟩

end Go.Proofs.Ytdlelbdhcpjdfab
