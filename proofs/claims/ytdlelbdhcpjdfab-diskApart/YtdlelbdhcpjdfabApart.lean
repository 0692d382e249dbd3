/-
  DiskApart: several files that share nothing.
-/
import Derived.Test.YtdlelbdhcpjdfabOpen
import Derived.Test.YtdlelbdhcpjdfabLd
namespace Go.Proofs.Ytdlelbdhcpjdfab
open Go.RowKit
set_option linter.unusedVariables false

/-- Two files have no block in common. -/
def Dis (r : Nat) (ρ : Option Nat) (r' : Nat) (ρ' : Option Nat) : Prop := ∀ k, Own r ρ k → ¬ Own r' ρ' k

theorem Dis.symm {r r' : Nat} {ρ ρ' : Option Nat} (h : Dis r ρ r' ρ') : Dis r' ρ' r ρ := fun k h1 h2 => h k h2 h1

theorem Dis.moved {w : World} {r r' : Nat} {ρ ρ2 ρ' : Option Nat} (h : Dis r ρ r' ρ') (hm : Moved w ρ ρ2) (hl : ∀ k, Own r' ρ' k → k < w.heap.size) : Dis r ρ2 r' ρ' := by
  rintro k (rfl | e) hk
  · exact h k (.inl rfl) hk
  · rcases hm with e2 | ⟨p, e2, hp⟩
    · exact h k (.inr (e2 ▸ e)) hk
    · rw [e2] at e
      obtain rfl := Option.some.inj e
      have := hl p hk
      omega

theorem Dis.fresh {w : World} {base r r' : Nat} {ρ ρ' : Option Nat} {B : List Int} {s : Nat} (h : DK w r' ρ' B s) (hn : ∀ k, Own r ρ k → w.heap.size ≤ k) : Dis r ρ r' ρ' := by
  intro k h1 h2
  have := h.lt k h2
  have := hn k h1
  omega

theorem DN.other {w w' : World} {base r : Nat} {ρ : Option Nat} {B : List Int} {s : Nat} {S : Nat → Prop} (h : DN w base r ρ B s) (hF : Fr S w w') (hd' : ∀ k, Own r ρ k → ¬ S k) : DN w' base r ρ B s := ⟨h.1.fr hF hd', h.2⟩

structure FS where
  B : List Int
  s : Nat

def stepS (o : OpV) (t : FS) : FS := ⟨(stepP o t.B t.s).B, (stepP o t.B t.s).s⟩

/-- Three files of the call itself. -/
def Ap3 (w wr : World) (ra rb rx : Nat) (a b x : FS) : Prop :=
  ∃ ρa ρb ρx, DN wr w.heap.size ra ρa a.B a.s ∧ DN wr w.heap.size rb ρb b.B b.s ∧ DN wr w.heap.size rx ρx x.B x.s ∧ Dis ra ρa rb ρb ∧ Dis ra ρa rx ρx ∧ Dis rb ρb rx ρx ∧ Below w.heap.size w wr

theorem Ap3.swap {w wr : World} {ra rb rx : Nat} {a b x : FS} (h : Ap3 w wr ra rb rx a b x) : Ap3 w wr rb ra rx b a x := by
  obtain ⟨ρa, ρb, ρx, h1, h2, h3, h4, h5, h6, h7⟩ := h
  exact ⟨ρb, ρa, ρx, h2, h1, h3, h4.symm, h6, h5, h7⟩
theorem Ap3.swap2 {w wr : World} {ra rb rx : Nat} {a b x : FS} (h : Ap3 w wr ra rb rx a b x) : Ap3 w wr rx rb ra x b a := by
  obtain ⟨ρa, ρb, ρx, h1, h2, h3, h4, h5, h6, h7⟩ := h
  exact ⟨ρx, ρb, ρa, h3, h2, h1, h6.symm, h5.symm, h4.symm, h7⟩

/-- The first of them takes a step. -/
theorem Ap3.act {w wr : World} {ra rb rx : Nat} {a b x : FS} (h : Ap3 w wr ra rb rx a b x) (o : OpV) (xa : Option Addr) (xn xc : Nat) (hx : IsB wr xa xn xc o.xs) (hn : xn ≤ 140737488351232) :
    Calls Try.prog 8 #[.pointer (some ⟨ra, 0, none⟩), opVal o xa xn xc] wr fun v w' => (∃ e, v = .returned (.int .i64 e)) ∧ Ap3 w w' ra rb rx (stepS o a) b x := by
  obtain ⟨ρa, ρb, ρx, h1, h2, h3, h4, h5, h6, h7⟩ := h
  refine (act_any ra ρa a.B a.s o xa xn xc wr h1.1 hx (by omega)).mono ?_
  rintro v w' ⟨rfl, hnow⟩
  obtain ⟨ρ, g1, g2, g3, g4⟩ := h1.now h7.size hnow
  exact ⟨⟨_, rfl⟩, ρ, ρb, ρx, g1, h2.other g3 (fun k hk => h4.symm k hk), h3.other g3 (fun k hk => h5.symm k hk), h4.moved g2 h2.1.lt, h5.moved g2 h3.1.lt, h6, h7.trans g4⟩

/-- Four of them. -/
def Ap4 (w wr : World) (ra rb rx ry : Nat) (a b x y : FS) : Prop :=
  ∃ ρa ρb ρx ρy, DN wr w.heap.size ra ρa a.B a.s ∧ DN wr w.heap.size rb ρb b.B b.s ∧ DN wr w.heap.size rx ρx x.B x.s ∧ DN wr w.heap.size ry ρy y.B y.s ∧ Dis ry ρy ra ρa ∧ Dis ry ρy rb ρb ∧ Dis ry ρy rx ρx ∧ Below w.heap.size w wr

theorem Ap4.act {w wr : World} {ra rb rx ry : Nat} {a b x y : FS} (h : Ap4 w wr ra rb rx ry a b x y) (o : OpV) (xa : Option Addr) (xn xc : Nat) (hx : IsB wr xa xn xc o.xs) (hn : xn ≤ 140737488351232) :
    Calls Try.prog 8 #[.pointer (some ⟨ry, 0, none⟩), opVal o xa xn xc] wr fun v w' => (∃ e, v = .returned (.int .i64 e)) ∧ Ap4 w w' ra rb rx ry a b x (stepS o y) := by
  obtain ⟨ρa, ρb, ρx, ρy, h1, h2, h3, h4, h5, h6, h7, h8⟩ := h
  refine (act_any ry ρy y.B y.s o xa xn xc wr h4.1 hx (by omega)).mono ?_
  rintro v w' ⟨rfl, hnow⟩
  obtain ⟨ρ, g1, g2, g3, g4⟩ := h4.now h8.size hnow
  exact ⟨⟨_, rfl⟩, ρa, ρb, ρx, ρ, h1.other g3 (fun k hk => h5.symm k hk), h2.other g3 (fun k hk => h6.symm k hk), h3.other g3 (fun k hk => h7.symm k hk), g1, h5.moved g2 h1.1.lt, h6.moved g2 h2.1.lt, h7.moved g2 h3.1.lt, h8.trans g4⟩

def siteP (n : Int) : Int := if (bits BinOp.and IntKind.i64 n 1 == 1) = true then 1 else 0

theorem siteP_or (n : Int) : siteP n = 0 ∨ siteP n = 1 := by
  unfold siteP
  split
  · exact .inr rfl
  · exact .inl rfl

set_option maxRecDepth 100000 in
theorem site_any (n : Int) (w : World) : Calls Try.prog 7 #[.int .i64 n] w fun x w' => x = .returned (.int .i64 (siteP n)) ∧ w = w' := by
  unfold siteP
  by_cases h : (bits BinOp.and IntKind.i64 n 1 == 1) = true
  · rw [if_pos h]
    go_enter Try.func7, Try.ntmps7
    go_wp2
    go_ret
    exact ⟨rfl, rfl⟩
  · rw [if_neg h]
    have h' : (bits BinOp.and IntKind.i64 n 1 == 1) = false := by simpa using h
    clear h
    go_enter Try.func7, Try.ntmps7
    go_wp2
    go_ret
    exact ⟨rfl, rfl⟩

/-- What the first k operations of that site make of a file. -/
def runS (O : Nat → OpV) (t : Int) (z : FS) : Nat → FS
  | 0 => z
  | k + 1 => if siteP (O k).site = t then stepS (O k) (runS O t z k) else runS O t z k

end Go.Proofs.Ytdlelbdhcpjdfab
