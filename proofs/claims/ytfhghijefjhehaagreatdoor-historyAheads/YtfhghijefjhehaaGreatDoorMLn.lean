/-
  Texts put together: Ln Lo Lp Lq Oa Ob Oc Od.
-/
import Derived.Test.YtfhghijefjhehaaGreatDoorMLg
import Derived.Test.YtfhghijefjhehaaGreatDoorMIq
import Derived.Test.YtfhghijefjhehaaGreatDoorMTChg
import Derived.RangeFuncNested
import Derived.RangeFuncBound
import Derived.RangeFuncCalls
import Derived.RangeFuncLeaves
import Derived.Shelf.RegionOpen
import Derived.OwnWalkIn
import Derived.TacticsInMore
import Derived.Test.YtfhghijefjhehaaGreatDoorMHg
import Derived.OrdersIn
import Derived.LoopNIn
import Derived.LoopIn
import Derived.Shelf.Abstract
import Derived.Sort.CutIn
import Derived.Sort.QuietIn
import Derived.Stop.RegionWithIn
/-! Ln -/
namespace Go.Proofs.YtfhghijefjhehaaGreatDoor
open Go.RowKit
set_option linter.unusedVariables false

/-- A character is a byte, a client and a number of an edit are what they may be. -/
def okC (o : OpE) : Prop := (0 ≤ o.ch ∧ o.ch ≤ 255) ∧ 1 ≤ o.cl ∧ o.cl ≤ 64 ∧ 1 ≤ o.sq ∧ o.sq ≤ 64
theorem shift_sq (a b : OpE) (f : Bool) : (shiftP a b f).sq = a.sq := by
  unfold shiftP
  split
  · rfl
  · split
    · rfl
    · split <;> rfl
theorem shift_ok {a : OpE} (b : OpE) (f : Bool) (h : okC a) : okC (shiftP a b f) := by
  refine ⟨shift_ch _ _ _ h.1, ?_⟩
  rw [shift_cl, shift_sq]
  exact h.2
theorem nop_ok {o : OpE} (h : okC o) : okC (nopO o) := ⟨by simp [nopO], h.2⟩
/-- A client makes no more than 64 edits; its characters are bytes. -/
structure GW (k : Wk) : Prop where
  n : k.made + k.still.length ≤ 64
  f : k.forms.length ≤ k.made
  s : ∀ x ∈ k.still, okC x.o
  o : ∀ x ∈ k.forms, okC x

theorem fit_ok (n : Nat) {o : OpE} (h : okC o) : okC (fitO n o) := by
  unfold fitO
  split
  · exact h
  · exact nop_ok h
theorem through_oks : ∀ (l : List OpE) (op : OpE) (f : Bool), (∀ x ∈ l, okC x) → ∀ x ∈ (throughP op l f).2, okC x
  | [], op, f, h => h
  | x :: l, op, f, h => by
    have h1 := through_oks l (shiftP op x (!f)) f (fun y hy => h y (by simp [hy]))
    simp only [throughP]
    intro y hy
    rcases List.mem_cons.1 hy with rfl | hy
    · exact shift_ok _ _ (h x (by simp))
    · exact h1 y hy
theorem through_ok1 : ∀ (l : List OpE) (op : OpE) (f : Bool), okC op → okC (throughP op l f).1
  | [], op, f, h => h
  | x :: l, op, f, h => by
    simp only [throughP]
    exact through_ok1 l _ f (shift_ok _ _ h)
theorem fits_nop {n : Nat} {o : OpE} (h : okC o) (hn : n ≤ 4096) : fitsP n (nopO o) = 0 := by
  have h1 : validP (nopO o) = 0 := by
    unfold validP nopO
    simp [inR, holdP, pointP, h.2.1, h.2.2.1, h.2.2.2.1, h.2.2.2.2]
  unfold fitsP
  rw [if_neg (by simp [h1])]
  simp [nopO, inR]
  omega
theorem fits_fit {n : Nat} {o : OpE} (h : okC o) (hn : n ≤ 4096) : fitsP n (fitO n o) = 0 := by
  unfold fitO
  split
  · assumption
  · exact fits_nop h hn
section
variable {ap : List El → OpE → List El}
theorem GW.mk1 {k : Wk} (h : GW k) : GW (k.mk1 ap) := by
  unfold Wk.mk1
  cases hs : k.still with
  | nil => exact h
  | cons x l =>
    have h1 := h.n
    have h2 := h.f
    rw [hs] at h1
    simp only [List.length_cons] at h1
    have hx : ∀ y ∈ x :: l, okC y.o := fun y hy => h.s y (by rw [hs]; exact hy)
    refine ⟨by simp only; omega, by simp; omega, fun y hy => hx y (by simp [hy]), fun y hy => ?_⟩
    rcases List.mem_append.1 hy with hy | hy
    · exact h.o y hy
    · rw [List.mem_singleton.1 hy]; exact fit_ok _ (hx x (by simp))
theorem GW.mkL (c : Int) : ∀ (l : List Ed) (k : Wk), GW k → GW (mkL ap c l k)
  | [], k, h => h
  | x :: l, k, h => by
    unfold Go.Proofs.YtfhghijefjhehaaGreatDoor.mkL
    split
    · exact GW.mkL c l _ h.mk1
    · exact h
theorem GW.all {k : Wk} (h : GW k) : GW (k.all ap) := GW.mkL _ _ _ h
theorem GW.take {k : Wk} (h : GW k) (op : OpE) (b : Bool) : GW (k.take ap op b) := by
  unfold Wk.take
  have h2 := h.f
  split
  · exact ⟨h.n, by simp; omega, h.s, fun x hx => h.o x (List.mem_of_mem_tail hx)⟩
  · exact ⟨h.n, by simp [throughP_len]; omega, h.s, through_oks _ _ _ h.o⟩
theorem gw_stW {log : List Ed} {E : Nat → List Ed} (h : ∀ c, GW ⟨E c, [], [], 0, 0⟩) : ∀ k c, GW ((stW ap log E k).1 c)
  | 0, c => h c
  | k + 1, c => by
    simp only [stW]
    cases log[k]? with
    | none => exact gw_stW h k c
    | some x => exact (gw_stW h k c).all.take _ _
end

section
variable {w0 w w' : World} {m : Nat} {v vd : Value} {X : Nat → Nat} {B G : Nat → Option Nat} {Z : Nat → List Dd} {K : Nat → Wk} {ds : List OpE}
theorem FS.fr {S : Nat → Prop} (h : FS w0 w m v X B G Z K) (hF : Fr S w w') (hx : ∀ c, c < m → ¬ S (X c)) (hb : ∀ c g, c < m → B c = some g → ¬ S g) (hr : ∀ g cs, w.heap[g]? = some (.cells cs 126 (0, 0)) → ¬ S g) (hS : ∀ j, S j → w0.heap.size ≤ j) : FS w0 w' m v X B G Z K := by
  obtain ⟨β, h1, h2⟩ := h.row
  refine ⟨h.hm.fr hF hx hb (fun c g hc hg hs => ?_), ⟨β, h1.fr hF (fun g hg => ?_), h2⟩, h.bel.trans (hF.below h.bel.size hS)⟩
  · have := h.hm.gl c g hc hg
    have := hS g hs
    omega
  · subst hg
    obtain ⟨cur, hc⟩ := SF.blk h1
    exact hr g _ hc
theorem FS.step (h : FS w0 w m v X B G Z K) {c : Nat} (hc : c < m) {β' : Option Nat} {z' : List Dd} {k' : Wk} (hk' : HK w' (X c) β' (G c) ((c : Int) + 1) z' k') (hF : Fr (fun j => j = X c ∨ B c = some j) w w') (hβ : ∀ g, β' = some g → B c = some g ∨ w.heap.size ≤ g) :
    FS w0 w' m v X (upd B c β') G (upd Z c z') (upd K c k') := by
  obtain ⟨β, h1, h2⟩ := h.row
  obtain ⟨vS, vF, k1, k2, k3⟩ := (h.hm.hk c hc).hd.blk
  refine ⟨h.hm.step h.bel.size hc hk' hF hβ, ⟨β, h1.fr hF (fun g hg hs => ?_), h2⟩, h.bel.trans (hF.below h.bel.size (fun j hj => ?_))⟩
  · rcases hs with hs | hs
    · subst hs
      exact h1.hne k1 (by decide) hg
    · rw [hs] at k3
      obtain ⟨off, cap, cur, -, kk, -⟩ := k3
      exact h1.hne kk (by decide) hg
  · rcases hj with hj | hj
    · rw [hj]; exact h.hm.lo c hc
    · exact h.hm.bl c j hc hj

/-- The hands and the done forms. -/
structure FW (w0 w : World) (m : Nat) (v vd : Value) (X : Nat → Nat) (B G : Nat → Option Nat) (Z : Nat → List Dd) (K : Nat → Wk) (ds : List OpE) : Prop where
  fs : FS w0 w m v X B G Z K
  dn : ∃ β, FO w β vd ds ∧ ∀ g, β = some g → w0.heap.size ≤ g ∧ ∀ c, c < m → B c ≠ some g

theorem FW.below (h : FW w0 w m v vd X B G Z K ds) (hb : Below w.heap.size w w') : FW w0 w' m v vd X B G Z K ds := by
  obtain ⟨β, h1, h2⟩ := h.dn
  exact ⟨h.fs.below hb, β, h1.fr (Fr.of_below (S := fun _ => False) hb) (fun _ _ h => h), h2⟩
theorem FW.step (h : FW w0 w m v vd X B G Z K ds) {c : Nat} (hc : c < m) {β' : Option Nat} {z' : List Dd} {k' : Wk} (hk' : HK w' (X c) β' (G c) ((c : Int) + 1) z' k') (hF : Fr (fun j => j = X c ∨ B c = some j) w w') (hβ : ∀ g, β' = some g → B c = some g ∨ w.heap.size ≤ g) :
    FW w0 w' m v vd X (upd B c β') G (upd Z c z') (upd K c k') ds := by
  obtain ⟨β, h1, h2⟩ := h.dn
  obtain ⟨vS, vF, k1, k2, k3⟩ := (h.fs.hm.hk c hc).hd.blk
  refine ⟨h.fs.step hc hk' hF hβ, β, h1.fr hF (fun g hg hs => ?_), fun g hg => ⟨(h2 g hg).1, fun d hd' e => ?_⟩⟩
  · rcases hs with hs | hs
    · subst hs
      exact h1.ne k1 (by decide) hg
    · exact (h2 g hg).2 c hc hs
  · by_cases e1 : d = c
    · subst e1
      rw [upd_same] at e
      rcases hβ g e with h3 | h3
      · exact (h2 g hg).2 _ hc h3
      · have := h1.lt g hg
        omega
    · rw [upd_ne _ _ e1] at e
      exact (h2 g hg).2 d hd' e

/-- One done form more. -/
theorem FW.push (h : FW w0 w m v vd X B G Z K ds) (x : OpE) (b : Nat) (hb : w.heap[b]? = some (.cells (opc x).toArray 69 (0, 0))) (hn : ds.length ≤ 1000000) :
    ∃ a c w', (∀ ty, (Builtin.append_ #[63, 63] ty #[vd, .slice (some ⟨b, 0, none⟩) 1 1]).run Tryz.prog w = .ok (.slice a (ds.length + 1) c) w') ∧ FW w0 w' m v (.slice a (ds.length + 1) c) X B G Z K (ds ++ [x]) := by
  obtain ⟨β, h1, h2⟩ := h.dn
  obtain ⟨v', w', g', hr, hF, hN⟩ := h1.push x b hb hn
  obtain ⟨a, c, rfl, -⟩ := hF.is
  simp only [List.length_append, List.length_cons, List.length_nil, Nat.zero_add] at hr hF
  have hFr : Fr (fun j => β = some j) w w' := by
    rcases hN with ⟨a, b⟩ | ⟨a, b⟩
    · exact b.mono (fun j _ hj => by rw [hj]; exact a)
    · exact b.mono (fun j _ hj => hj.elim)
  refine ⟨a, c, w', hr, h.fs.fr hFr (fun c hc hs => ?_) (fun c g hc hg hs => (h2 g hs).2 c hc hg) (fun g cs hg hs => h1.ne hg (by decide) hs) (fun j hj => (h2 j hj).1), some g', hF, fun g hg => ?_⟩
  · obtain ⟨vS, vF, k1, k2, k3⟩ := (h.fs.hm.hk c hc).hd.blk
    exact h1.ne k1 (by decide) hs
  · injection hg with hg
    subst hg
    rcases hN with ⟨a, -⟩ | ⟨a, -⟩
    · exact h2 _ a
    · refine ⟨by rw [a]; exact h.fs.bel.size, fun d hd' e => ?_⟩
      have := h.fs.hm.blt hd' e
      omega
end

end Go.Proofs.YtfhghijefjhehaaGreatDoor

/-! Lo -/
namespace Go.Proofs.YtfhghijefjhehaaGreatDoor
open Go.RowKit
set_option linter.unusedVariables false

theorem mkL_hav {ap : List El → OpE → List El} (k : Int) : ∀ (l : List Ed) (w : Wk), (mkL ap k l w).hav = w.hav
  | [], w => rfl
  | x :: l, w => by
    unfold mkL
    split
    · rw [mkL_hav k l]
      unfold Wk.mk1
      split <;> rfl
    · rfl
theorem all_hav {ap : List El → OpE → List El} (k : Wk) : (k.all ap).hav = k.hav := mkL_hav _ _ _

/-- What is known of the log and of what clients make, without memory. -/
structure PF (C : Nat) (log : List Ed) (E : Nat → List Ed) : Prop where
  gw : ∀ k c, GW ((stW apE log E k).1 c)
  op : ∀ k (hk : k < log.length), (opK apE log E k).cl = log[k].o.cl ∧ ∃ l, (((stW apE log E k).1 log[k].o.cl.toNat).all apE).forms = opK apE log E k :: l
  hav : ∀ k c, k ≤ log.length → ((stW apE log E k).1 c).hav = k
  cl : ∀ k (hk : k < log.length), 1 ≤ log[k].o.cl ∧ log[k].o.cl ≤ (C : Int)
  len : ∀ k, k ≤ log.length → (stW apE log E k).2.length = k

def kA (K : Nat → Wk) (c : Nat) : Nat → Wk := fun d => if d < c then (K d).all apE else K d
def kT (K : Nat → Wk) (o : OpE) (c : Nat) : Nat → Wk := fun d => if d < c then ((K d).all apE).take apE o (o.cl == (d : Int) + 1) else (K d).all apE
theorem kA_at (K : Nat → Wk) (c : Nat) : kA K c c = K c := by simp [kA]
theorem kT_at (K : Nat → Wk) (o : OpE) (c : Nat) : kT K o c c = (K c).all apE := by simp [kT]
theorem kA_next (K : Nat → Wk) (c : Nat) : upd (kA K c) c ((K c).all apE) = kA K (c + 1) := by
  funext d
  unfold upd kA
  by_cases e : d = c
  · subst e; simp
  · rw [if_neg e]
    by_cases h : d < c
    · rw [if_pos h, if_pos (by omega)]
    · rw [if_neg h, if_neg (by omega)]
theorem kT_next (K : Nat → Wk) (o : OpE) (c : Nat) : upd (kT K o c) c (((K c).all apE).take apE o (o.cl == (c : Int) + 1)) = kT K o (c + 1) := by
  funext d
  unfold upd kT
  by_cases e : d = c
  · subst e; simp
  · rw [if_neg e]
    by_cases h : d < c
    · rw [if_pos h, if_pos (by omega)]
    · rw [if_neg h, if_neg (by omega)]

section
variable {w0 w : World} {m : Nat} {v vd : Value} {X : Nat → Nat} {B G : Nat → Option Nat} {Z : Nat → List Dd} {K K' : Nat → Wk} {ds : List OpE} {c : Nat}
theorem FW.congr (h : FW w0 w m v vd X B G Z K ds) (e : ∀ c, c < m → K c = K' c) : FW w0 w m v vd X B G Z K' ds :=
  ⟨⟨⟨fun c hc => by rw [← e c hc]; exact h.fs.hm.hk c hc, h.fs.hm.xi, h.fs.hm.bi, h.fs.hm.lo, h.fs.hm.bl, h.fs.hm.gl⟩, h.fs.row, h.fs.bel⟩, h.dn⟩
/-- The pointers of the hands. -/
theorem FS.at (h : FS w0 w m v X B G Z K) (hm : 0 < m) : ∃ g cap, v = .slice (some ⟨g, 0, none⟩) m cap ∧ m ≤ cap ∧ cap ≤ 9223372036854775807 := by
  obtain ⟨β, h1, -⟩ := h.row
  cases β with
  | none =>
    obtain ⟨-, h2⟩ := h1
    have := congrArg List.length h2
    simp at this
    omega
  | some g =>
    obtain ⟨cap, rfl, cur, k1, k2, k3, k4, k5, k6⟩ := h1
    refine ⟨g, cap, by simp, by simpa using k4, k5⟩
theorem FS.ptr {g cap : Nat} (h : FS w0 w m (.slice (some ⟨g, 0, none⟩) m cap) X B G Z K) (hc : c < m) : w.cell? ⟨g, c, none⟩ = some (.pointer (some ⟨X c, 0, none⟩)) := by
  obtain ⟨β, h1, -⟩ := h.row
  cases β with
  | none =>
    obtain ⟨h2, -⟩ := h1
    simp at h2
  | some g' =>
    obtain ⟨cap', hv, hR⟩ := h1
    obtain ⟨rfl, -⟩ : g = g' ∧ cap = cap' := by simpa using hv
    have := RowF.cell hR szH c 0 (by simpa using hc) (by omega)
    rw [Nat.mul_one, Nat.add_zero] at this
    rw [this]
    simp [hpc]

theorem due_fw (h : FW w0 w m v vd X B G Z K ds) (hc : c < m) : Calls Tryz.prog 47 #[.pointer (some ⟨X c, 0, none⟩)] w fun e w' => e = .returned (.bool (K c).due) ∧ Below w.heap.size w w' := due_k (h.fs.hm.hk c hc)

def lenAt (w : World) (x : Nat) : Nat := match w.cell? ⟨x, 1, none⟩ with
  | some (.slice _ n _) => n
  | _ => 0
theorem FW.lenAt (h : FW w0 w m v vd X B G Z K ds) (hc : c < m) : Go.Proofs.YtfhghijefjhehaaGreatDoor.lenAt w (X c) = (K c).still.length := by
  have hk := h.fs.hm.hk c hc
  obtain ⟨vS, vF, hS, hF, c0, c1, -⟩ := hk.hd.cells
  obtain ⟨a, cp, rfl, -⟩ := hS.form
  rw [← hk.st]
  simp [Go.Proofs.YtfhghijefjhehaaGreatDoor.lenAt, c1]

theorem make_fw (h : FW w0 w m v vd X B G Z K ds) (hc : c < m) (hd' : (K c).due = true) (hg : GW (K c)) :
    Calls Tryz.prog 48 #[.pointer (some ⟨X c, 0, none⟩)] w fun e w' => (∃ r : OpE, e = .returned r.val) ∧ (∃ B' Z', FW w0 w' m v vd X B' G Z' (upd K c ((K c).mk1 apE)) ds) ∧ ∀ (be : Nat) (cs : Array Value), w.heap[be]? = some (.cells cs 74 (0, 0)) → w'.heap[be]? = some (.cells cs 74 (0, 0)) := by
  have hk := h.fs.hm.hk c hc
  obtain ⟨x, l, hs, ht⟩ := due_cons hd'
  cases hz : Z c with
  | nil =>
    have := hk.st
    rw [hz, hs] at this
    simp at this
  | cons d dl =>
    have hst := hk.st
    rw [hz, hs] at hst
    have hx : d.e = x := by simp at hst; exact hst.1
    rw [hz] at hk
    have hn := hg.n
    have hf := hg.f
    refine (makeNext_k hk (by rw [hx]; exact (hg.s x (by rw [hs]; simp)).1) (by omega) (by omega)).mono ?_
    rintro e w' ⟨rfl, ⟨g', h1, h2⟩, hF⟩
    refine ⟨⟨_, rfl⟩, ⟨_, _, h.step hc h1 hF (fun g hg' => by injection hg' with hg'; subst hg'; exact h2)⟩, fun be cs hbe => hF.keeps hbe (fun hs' => ?_)⟩
    obtain ⟨vS, vF, k1, k2, k3⟩ := hk.hd.blk
    rcases hs' with hs' | hs'
    · subst hs'
      rw [k1] at hbe
      simp at hbe
    · exact k3.ne hbe (by decide) hs'

theorem take_fw (h : FW w0 w m v vd X B G Z K ds) (hT : Table w0) (hc : c < m) (o : OpE) (hne : o.cl = (c : Int) + 1 → (K c).forms ≠ []) (hg : GW (K c)) (hh : (K c).hav ≤ 1000000) (h0 : okC o) (rb : Nat) (cs : Array Value) (hrb : w.heap[rb]? = some (.cells cs 69 (0, 0))) (hr : ∀ d, d < m → B d ≠ some rb) :
    Calls Tryz.prog 49 #[.pointer (some ⟨X c, 0, none⟩), o.val] w fun e w' => (∃ r : OpE, e = .returned r.val) ∧ (∃ B' Z', FW w0 w' m v vd X B' G Z' (upd K c ((K c).take apE o (o.cl == (c : Int) + 1))) ds ∧ ∀ d, d < m → B' d ≠ some rb) ∧ w'.heap[rb]? = some (.cells cs 69 (0, 0)) := by
  have hk := h.fs.hm.hk c hc
  have hn := hg.n
  have hf := hg.f
  have hlo := h.fs.hm.lo c hc
  refine (takeIn_k hk (hT.below h.fs.bel hT.1) (by have := hT.1; omega) o hne hh (by omega) h0.1).mono ?_
  rintro e w' ⟨⟨r, rfl, -⟩, ⟨β', h1, h2⟩, hF⟩
  obtain ⟨vS, vF, k1, k2, k3⟩ := hk.hd.blk
  refine ⟨⟨_, rfl⟩, ⟨_, _, h.step hc h2 (hF.mono (fun j _ hj => .inl hj)) h1, fun d hd' e => ?_⟩, hF.keeps hrb (fun e => ?_)⟩
  · by_cases e1 : d = c
    · subst e1
      rw [upd_same] at e
      rcases h1 rb e with h3 | h3
      · exact hr _ hd' h3
      · have := block_lt hrb
        omega
    · rw [upd_ne _ _ e1] at e
      exact hr d hd' e
  · subst e
    rw [k1] at hrb
    simp at hrb

/-- The first form, to be read. -/
theorem FO.head {β : Option Nat} {x : OpE} {fs : List OpE} {a : Option Addr} {n cp : Nat} (h : FO w β (.slice a n cp) (x :: fs)) : ∃ g off, a = some ⟨g, off, none⟩ ∧ n = fs.length + 1 ∧ fs.length + 1 ≤ cp ∧ cp ≤ 9223372036854775807 ∧ g < w.heap.size ∧
    w.cell? ⟨g, off, none⟩ = some (.int .i64 x.kind) ∧ w.cell? ⟨g, off + 1, none⟩ = some (.int .i64 x.pos) ∧ w.cell? ⟨g, off + 2, none⟩ = some (.int .u8 x.ch) ∧ w.cell? ⟨g, off + 3, none⟩ = some (.int .i64 x.cl) ∧ w.cell? ⟨g, off + 4, none⟩ = some (.int .i64 x.sq) := by
  cases β with
  | none => obtain ⟨-, h⟩ := h; cases h
  | some g =>
    obtain ⟨off, cap, cur, hv, h2, h3, h4, h5, h6⟩ := h
    obtain ⟨rfl, rfl, rfl⟩ : a = some ⟨g, off, none⟩ ∧ n = fs.length + 1 ∧ cp = cap := by simpa using hv
    have hc : ∀ j u, (opc x)[j]? = some u → w.cell? ⟨g, off + j, none⟩ = some u := fun j u hj => by
      rw [cell_row h2, List.getElem?_toArray]
      refine h6 j u ?_
      rw [cO_cons, List.getElem?_append_left (List.getElem?_eq_some_iff.1 hj).1]
      exact hj
    exact ⟨g, off, rfl, rfl, by simpa using h3, h4, block_lt h2, hc 0 _ rfl, hc 1 _ rfl, hc 2 _ rfl, hc 3 _ rfl, hc 4 _ rfl⟩
end

end Go.Proofs.YtfhghijefjhehaaGreatDoor

/-! Lp -/
namespace Go.Proofs.YtfhghijefjhehaaGreatDoor
open Go.RowKit
set_option linter.unusedVariables false

/-- Behind the making of the done forms' row. -/
theorem FW.begin {w0 w w' : World} {m : Nat} {v : Value} {X : Nat → Nat} {B G : Nat → Option Nat} {Z : Nat → List Dd} {K : Nat → Wk} {n : Nat} {cur : List Value} (h : FS w0 w m v X B G Z K) (hb : Below w.heap.size w w') (hr : w'.heap[w.heap.size]? = some (.cells cur.toArray 69 (0, 0))) (hc : n * 5 ≤ cur.length) (hn : n ≤ 9223372036854775807) :
    FW w0 w' m v (.slice (some ⟨w.heap.size, 0, none⟩) 0 n) X B G Z K [] := by
  refine ⟨h.below hb, some w.heap.size, ⟨0, n, cur, rfl, hr, Nat.zero_le _, hn, by omega, fun j u hj => by simp [cO] at hj⟩, fun g hg => ?_⟩
  injection hg with hg
  subst hg
  exact ⟨h.bel.size, fun c hc e => by have := h.hm.blt hc e; omega⟩

/-- The edit of the log that is gone through, in memory. -/
theorem IsL.cell {w : World} {b off n k : Nat} {log : List Ed} (h : IsL w (some ⟨b, off, none⟩) n log) (hk : k < log.length) : b < w.heap.size ∧ w.cell? ⟨b, off + k * 6, none⟩ = some (.int .i64 log[k].tag) ∧ w.cell? ⟨b, off + k * 6 + 1, none⟩ = some (.int .i64 log[k].o.kind) ∧
    w.cell? ⟨b, off + k * 6 + 2, none⟩ = some (.int .i64 log[k].o.pos) ∧ w.cell? ⟨b, off + k * 6 + 3, none⟩ = some (.int .u8 log[k].o.ch) ∧ w.cell? ⟨b, off + k * 6 + 4, none⟩ = some (.int .i64 log[k].o.cl) ∧ w.cell? ⟨b, off + k * 6 + 5, none⟩ = some (.int .i64 log[k].o.sq) := by
  obtain ⟨b', off', e, hb, hc⟩ := h.2 (by have := h.1; omega)
  obtain ⟨rfl, rfl⟩ : b = b' ∧ off = off' := by simpa using e
  exact ⟨hb, hc k hk⟩

/-- Ahead of record k. -/
def IB (w1 wr : World) (C : Nat) (v vd : Value) (X : Nat → Nat) (G : Nat → Option Nat) (log : List Ed) (E : Nat → List Ed) (k : Nat) : Prop :=
  ∃ B Z, FW w1 wr C v vd X B G Z (fun c => (stW apE log E k).1 (c + 1)) (stW apE log E k).2
/-- In the midst of making, c hands are through. -/
def IC (w1 wr : World) (C : Nat) (v vd : Value) (X : Nat → Nat) (G : Nat → Option Nat) (K : Nat → Wk) (ds : List OpE) (be : Nat) (cs : Array Value) (c : Nat) : Prop :=
  (∃ B Z, FW w1 wr C v vd X B G Z (kA K c) ds) ∧ wr.heap[be]? = some (.cells cs 74 (0, 0))
/-- Hand c is making. -/
def ID (w1 wr : World) (C : Nat) (v vd : Value) (X : Nat → Nat) (G : Nat → Option Nat) (K : Nat → Wk) (ds : List OpE) (be : Nat) (cs : Array Value) (c : Nat) : Prop :=
  (∃ B Z k', FW w1 wr C v vd X B G Z (upd (kA K c) c k') ds ∧ k'.all apE = (K c).all apE ∧ GW k') ∧ wr.heap[be]? = some (.cells cs 74 (0, 0))
/-- In the midst of taking in, c hands are through. -/
def IE (w1 wr : World) (C : Nat) (v vd : Value) (X : Nat → Nat) (G : Nat → Option Nat) (K : Nat → Wk) (ds : List OpE) (o : OpE) (rb : Nat) (c : Nat) : Prop :=
  (∃ B Z, FW w1 wr C v vd X B G Z (kT K o c) ds ∧ ∀ d, d < C → B d ≠ some rb) ∧ wr.heap[rb]? = some (.cells (opc o).toArray 69 (0, 0))

theorem below_edit {w : World} {be : Nat} {cs : Array Value} {t : TypeId} {w' : World} (h : w.heap[be]? = some (.cells cs t (0, 0))) (hb : Below w.heap.size w w') : w'.heap[be]? = some (.cells cs t (0, 0)) := (hb.block be (block_lt h)).trans h

section
variable {w1 wr : World} {C : Nat} {v vd : Value} {X : Nat → Nat} {G : Nat → Option Nat} {K : Nat → Wk} {ds : List OpE} {be c : Nat} {cs : Array Value}
theorem IC.start (h : IC w1 wr C v vd X G K ds be cs c) (hg : GW (K c)) : ID w1 wr C v vd X G K ds be cs c := by
  obtain ⟨⟨B, Z, h1⟩, h2⟩ := h
  refine ⟨⟨B, Z, K c, ?_, rfl, hg⟩, h2⟩
  rw [show upd (kA K c) c (K c) = kA K c from by rw [← kA_at K c]; exact upd_self _ _]
  exact h1
theorem ID.due (h : ID w1 wr C v vd X G K ds be cs c) (hc : c < C) :
    Calls Tryz.prog 47 #[.pointer (some ⟨X c, 0, none⟩)] wr fun e w' => ∃ d : Bool, e = .returned (.bool d) ∧ (d = false → IC w1 w' C v vd X G K ds be cs (c + 1)) ∧ (d = true → ∃ B Z k', FW w1 w' C v vd X B G Z (upd (kA K c) c k') ds ∧ k'.all apE = (K c).all apE ∧ GW k' ∧ k'.due = true ∧ lenAt wr (X c) = k'.still.length ∧ w'.heap[be]? = some (.cells cs 74 (0, 0))) := by
  obtain ⟨⟨B, Z, k', h1, h2, h3⟩, h4⟩ := h
  refine (due_fw h1 hc).mono ?_
  rintro e w' ⟨rfl, hb⟩
  refine ⟨_, rfl, fun hd' => ⟨⟨B, Z, ?_⟩, below_edit h4 hb⟩, fun hd' => ⟨B, Z, k', h1.below hb, h2, h3, ?_, ?_, below_edit h4 hb⟩⟩
  · rw [upd_same] at hd'
    rw [← kA_next, ← h2, all_idle hd']
    exact h1.below hb
  · rwa [upd_same] at hd'
  · rw [h1.lenAt hc, upd_same]
theorem ID.make {B : Nat → Option Nat} {Z : Nat → List Dd} {k' : Wk} (h1 : FW w1 wr C v vd X B G Z (upd (kA K c) c k') ds) (hc : c < C) (h2 : k'.all apE = (K c).all apE) (h3 : GW k') (hd' : k'.due = true) (h4 : wr.heap[be]? = some (.cells cs 74 (0, 0))) :
    Calls Tryz.prog 48 #[.pointer (some ⟨X c, 0, none⟩)] wr fun e w' => (∃ r : OpE, e = .returned r.val) ∧ ID w1 w' C v vd X G K ds be cs c ∧ lenAt w' (X c) < k'.still.length := by
  refine (make_fw h1 hc (by rw [upd_same]; exact hd') (by rw [upd_same]; exact h3)).mono ?_
  rintro e w' ⟨hr, ⟨B', Z', h5⟩, h6⟩
  rw [upd_same] at h5
  have e1 : upd (upd (kA K c) c k') c (k'.mk1 apE) = upd (kA K c) c (k'.mk1 apE) := by
    funext d
    unfold upd
    split <;> rfl
  rw [e1] at h5
  refine ⟨hr, ⟨⟨B', Z', k'.mk1 apE, h5, (all_due hd').trans h2, h3.mk1⟩, h6 be cs h4⟩, ?_⟩
  rw [h5.lenAt hc, upd_same]
  exact due_less hd'
theorem IE.take {o : OpE} {rb : Nat} (h : IE w1 wr C v vd X G K ds o rb c) (hT : Table w1) (hc : c < C) (hne : o.cl = (c : Int) + 1 → ((K c).all apE).forms ≠ []) (hg : GW (K c)) (hh : (K c).hav ≤ 4096) (h0 : okC o) :
    Calls Tryz.prog 49 #[.pointer (some ⟨X c, 0, none⟩), o.val] wr fun e w' => (∃ r : OpE, e = .returned r.val) ∧ IE w1 w' C v vd X G K ds o rb (c + 1) := by
  obtain ⟨⟨B, Z, h1, h2⟩, h3⟩ := h
  refine (take_fw h1 hT hc o (by rw [kT_at]; exact hne) (by rw [kT_at]; exact hg.all) (by rw [kT_at, all_hav]; omega) h0 rb _ h3 h2).mono ?_
  rintro e w' ⟨hr, ⟨B', Z', h4, h5⟩, h6⟩
  rw [kT_at, kT_next] at h4
  exact ⟨hr, ⟨B', Z', h4, h5⟩, h6⟩
theorem IE.ptr {g cap : Nat} {o : OpE} {rb : Nat} (h : IE w1 wr C (.slice (some ⟨g, 0, none⟩) C cap) vd X G K ds o rb c) (hc : c < C) : wr.cell? ⟨g, c, none⟩ = some (.pointer (some ⟨X c, 0, none⟩)) := by
  obtain ⟨⟨B, Z, h1, h2⟩, h3⟩ := h
  exact h1.fs.ptr hc
theorem IC.ptr {g cap : Nat} (h : IC w1 wr C (.slice (some ⟨g, 0, none⟩) C cap) vd X G K ds be cs c) {d : Nat} (hc : d < C) : wr.cell? ⟨g, d, none⟩ = some (.pointer (some ⟨X d, 0, none⟩)) := by
  obtain ⟨⟨B, Z, h1⟩, h2⟩ := h
  exact h1.fs.ptr hc
end

section
variable {w1 wr : World} {C : Nat} {v vd : Value} {X : Nat → Nat} {G : Nat → Option Nat} {log : List Ed} {E : Nat → List Ed} {be k : Nat} {cs : Array Value}
/-- All have made what is due: the record is the first form of its maker. -/
theorem IC.rec (h : IC w1 wr C v vd X G (fun c => (stW apE log E k).1 (c + 1)) (stW apE log E k).2 be cs C) (hP : PF C log E) (hk : k < log.length) :
    ∃ mI g off n cp, log[k].o.cl = ((mI + 1 : Nat) : Int) ∧ mI < C ∧ wr.cell? ⟨X mI, 4, none⟩ = some (.slice (some ⟨g, off, none⟩) n cp) ∧ 0 < n ∧ n ≤ cp ∧ cp ≤ 9223372036854775807 ∧ g < wr.heap.size ∧ X mI < wr.heap.size ∧
      wr.cell? ⟨g, off, none⟩ = some (.int .i64 (opK apE log E k).kind) ∧ wr.cell? ⟨g, off + 1, none⟩ = some (.int .i64 (opK apE log E k).pos) ∧ wr.cell? ⟨g, off + 2, none⟩ = some (.int .u8 (opK apE log E k).ch) ∧ wr.cell? ⟨g, off + 3, none⟩ = some (.int .i64 (opK apE log E k).cl) ∧ wr.cell? ⟨g, off + 4, none⟩ = some (.int .i64 (opK apE log E k).sq) := by
  obtain ⟨⟨B, Z, h1⟩, -⟩ := h
  obtain ⟨c1, c2⟩ := hP.cl k hk
  obtain ⟨o1, l, o2⟩ := hP.op k hk
  obtain ⟨mI, hm⟩ : ∃ mI : Nat, log[k].o.cl = ((mI + 1 : Nat) : Int) := ⟨(log[k].o.cl - 1).toNat, by omega⟩
  have hmC : mI < C := by omega
  have hk' := h1.fs.hm.hk mI hmC
  have e : kA (fun c => (stW apE log E k).1 (c + 1)) C mI = ((stW apE log E k).1 (mI + 1)).all apE := by simp [kA, hmC]
  rw [e] at hk'
  rw [hm, Int.toNat_natCast] at o2
  obtain ⟨vS, vF, hS, hF, d0, d1, d2, d3, d4, d5⟩ := hk'.hd.cells
  obtain ⟨a, cp, rfl, -⟩ := hF.is
  rw [o2] at hF d4
  obtain ⟨g, off, rfl, e1, e2, e3, e4, q⟩ := hF.head
  exact ⟨mI, g, off, _, cp, hm, hmC, d4, by simp, by simpa using e2, e3, e4, hk'.hd.lt, q⟩
/-- The record lies in a block of its own. -/
theorem IC.took (h : IC w1 wr C v vd X G (fun c => (stW apE log E k).1 (c + 1)) (stW apE log E k).2 be cs C) {w' : World} (hb : Below wr.heap.size wr w') {o : OpE} (hr : w'.heap[wr.heap.size]? = some (.cells (opc o).toArray 69 (0, 0))) :
    IE w1 w' C v vd X G (fun c => (stW apE log E k).1 (c + 1)) (stW apE log E k).2 o wr.heap.size 0 := by
  obtain ⟨⟨B, Z, h1⟩, -⟩ := h
  refine ⟨⟨B, Z, (h1.below hb).congr (fun c hc => ?_), fun d hd' e => ?_⟩, hr⟩
  · simp [kA, kT, hc]
  · have := h1.fs.hm.blt hd' e
    omega
/-- All have taken the record in, and it is done. -/
theorem IE.fin {rb : Nat} (h : IE w1 wr C v vd X G (fun c => (stW apE log E k).1 (c + 1)) (stW apE log E k).2 (opK apE log E k) rb C) (hP : PF C log E) (hk : k < log.length) (hk2 : k ≤ 4096) :
    ∃ a c w', (∀ ty, (Builtin.append_ #[63, 63] ty #[vd, .slice (some ⟨wr.heap.size, 0, none⟩) 1 1]).run Tryz.prog (wr.alloc (.cells (opc (opK apE log E k)).toArray 69)) = .ok (.slice a (k + 1) c) w') ∧ IB w1 w' C v (.slice a (k + 1) c) X G log E (k + 1) := by
  obtain ⟨⟨B, Z, h1, -⟩, -⟩ := h
  have hlen := hP.len k (by omega)
  have b2 : Below wr.heap.size wr (wr.alloc (.cells (opc (opK apE log E k)).toArray 69)) := (Below.refl _ _).alloc (Nat.le_refl _) _
  obtain ⟨a, c, w', hr, h2⟩ := (h1.below b2).push (opK apE log E k) wr.heap.size (heap_alloc_new wr _) (by omega)
  rw [hlen] at hr h2
  refine ⟨a, c, w', hr, B, Z, ?_⟩
  rw [stW_succ hk]
  refine h2.congr (fun d hd' => ?_)
  obtain ⟨o1, -⟩ := hP.op k hk
  have hc := hP.cl k hk
  have e : ((opK apE log E k).cl == (d : Int) + 1) = (d + 1 == log[k].o.cl.toNat) := by
    rw [o1, Bool.eq_iff_iff]
    simp
    omega
  simp only [kT, hd', if_true, e]
end

end Go.Proofs.YtfhghijefjhehaaGreatDoor

/-! Lq -/
namespace Go.Proofs.YtfhghijefjhehaaGreatDoor
open Go.RowKit
set_option linter.unusedVariables false

section
variable {w : World} {x : Nat} {C : Nat} {aL : Option Addr} {nL cL : Nat} {vE : Value} {S : Nat → Ls} {L : Nat → Option Nat} {log : List Ed} {E : Nat → List Ed}
theorem IB.start {w1 wr w' : World} {v : Value} {X : Nat → Nat} {G : Nat → Option Nat} {Z : Nat → List Dd} {n : Nat} {cur : List Value} (h : FS w1 wr C v X (fun _ => none) G Z (fun c => wk0 (Z c))) (hZ : ∀ c, c < C → (Z c).map (·.e) = E (c + 1)) (hb : Below wr.heap.size wr w') (hr : w'.heap[wr.heap.size]? = some (.cells cur.toArray 69 (0, 0))) (hc : n * 5 ≤ cur.length) (hn : n ≤ 9223372036854775807) :
    IB w1 w' C v (.slice (some ⟨wr.heap.size, 0, none⟩) 0 n) X G log E 0 :=
  ⟨_, _, (FW.begin h hb hr hc hn).congr (fun c hc => by simp only [wk0, stW]; rw [hZ c hc])⟩
theorem IB.out {w1 wr : World} {v vd : Value} {X : Nat → Nat} {G : Nat → Option Nat} {k : Nat} (h : IB w1 wr C v vd X G log E k) : ∃ a c, vd = .slice a (stW apE log E k).2.length c ∧ Below w1.heap.size w1 wr ∧ ∃ β, FO wr β vd (stW apE log E k).2 ∧ ∀ g, β = some g → w1.heap.size ≤ g := by
  obtain ⟨B, Z, h⟩ := h
  obtain ⟨β, h1, h2⟩ := h.dn
  obtain ⟨a, c, e, -⟩ := h1.is
  exact ⟨a, c, e, h.fs.bel, β, h1, fun g hg => (h2 g hg).1⟩
theorem IB.making {w1 wr w' : World} {v vd : Value} {X : Nat → Nat} {G : Nat → Option Nat} {k : Nat} {cs : Array Value} (h : IB w1 wr C v vd X G log E k) (hb : Below wr.heap.size wr w') (he : w'.heap[wr.heap.size]? = some (.cells cs 74 (0, 0))) :
    IC w1 w' C v vd X G (fun c => (stW apE log E k).1 (c + 1)) (stW apE log E k).2 wr.heap.size cs 0 := by
  obtain ⟨B, Z, h⟩ := h
  exact ⟨⟨B, Z, (h.below hb).congr (fun c hc => by simp [kA])⟩, he⟩
theorem IC.bel {w1 wr : World} {v vd : Value} {X : Nat → Nat} {G : Nat → Option Nat} {K : Nat → Wk} {ds : List OpE} {be c : Nat} {cs : Array Value} (h : IC w1 wr C v vd X G K ds be cs c) : Below w1.heap.size w1 wr := by
  obtain ⟨⟨B, Z, h⟩, -⟩ := h
  exact h.fs.bel

theorem PF.ne {k : Nat} (hP : PF C log E) (hk : k < log.length) (c : Nat) (e : (opK apE log E k).cl = (c : Int) + 1) : (((stW apE log E k).1 (c + 1)).all apE).forms ≠ [] := by
  obtain ⟨o1, l, o2⟩ := hP.op k hk
  have e2 : log[k].o.cl.toNat = c + 1 := by omega
  rw [e2] at o2
  rw [o2]
  simp
theorem PF.ok {k : Nat} (hP : PF C log E) (hk : k < log.length) : okC (opK apE log E k) := by
  obtain ⟨o1, l, o2⟩ := hP.op k hk
  exact (hP.gw k log[k].o.cl.toNat).all.o _ (by rw [o2]; simp)

set_option maxRecDepth 100000 in
set_option maxHeartbeats 8000000 in
theorem follow_any (h : TL w x (C : Int) (.slice aL nL cL) vE S L) (hC0 : 0 < C) (hC : C ≤ 64) (hLg : IsL w aL nL log) (hn : nL ≤ 4096) (Z : Nat → List Dd) (hS : ∀ c, c < C → S (130 + (c + 1)) = .ds (Z c)) (hZ : ∀ c, c < C → (Z c).map (·.e) = E (c + 1)) (hP : PF C log E) (hT : Table w) :
    Calls Tryz.prog 17 #[.pointer (some ⟨x, 0, none⟩)] w fun e w' => ∃ a c β, e = .returned (.agg #[.pointer (some ⟨x, 0, none⟩), .slice a nL c]) ∧ FO w' β (.slice a nL c) (stW apE log E nL).2 ∧ (∀ g, β = some g → w.heap.size ≤ g) ∧ Below w.heap.size w w' := by
  obtain ⟨i0, hi0, hz0, hz1, hz2⟩ := info_parts Tryz.infoO
  have B1 : Below w.heap.size w (w.alloc (.cells #[.pointer none, .slice none 0 0] 65)) := (Below.refl _ _).alloc (Nat.le_refl _) _
  have HP0 := hd (heap_alloc_new w (.cells #[.pointer none, .slice none 0 0] 65))
  have HT := hd (h.below B1)
  have HTb := hd (hT.below B1 hT.1)
  have HLg := hd (hLg.below B1 (Nat.le_refl _))
  have HS := hd hS
  have HZ := hd hZ
  have HPF := hd hP
  have HO := hd (fun i g (hi : i < 195) (hg : L i = some g) => h.old hi hg)
  have HB1 := hd B1
  have lx : x < w.heap.size := h.lt
  have hz : w.heap.size < (w.alloc (.cells #[.pointer none, .slice none 0 0] 65)).heap.size := by simp
  clear h hS hZ B1 hT hLg hP
  go_enter Tryz.func17, Tryz.ntmps17
  go_upto_region 1 with fail
  generalize w.alloc (.cells #[.pointer none, .slice none 0 0] 65) = w1 at *
  have I0 := hd (FS.nil w1 (fun _ => 0) (fun _ => none) (fun c => L (130 + (c + 1))) Z (fun c => wk0 (Z c)))
  go_wp2_with fail
  go_loopw [3, 4] (fun v i wr => ∃ m : Nat, ∃ X : Nat → Nat, m ≤ C ∧ i = .int .i64 ((m + 1 : Nat) : Int) ∧ Hid (FS w1 wr m v X (fun _ => none) (fun c => L (130 + (c + 1))) Z (fun c => wk0 (Z c)))) (fun _ i _ => C + 1 - (intOf i).toNat)
  case atStart => exact ⟨0, _, Nat.zero_le _, rfl, I0.out⟩
  case round =>
    obtain ⟨m, X, hm, rfl, HR⟩ := hrel
    clear I0
    have T1 := hd (HT.out.below (HR.out.bel))
    obtain ⟨q0, q1, q2⟩ := T1.out.heads
    by_cases hlt : m < C
    · have i1 : ((m + 1 : Nat) : Int) ≤ (C : Int) := by omega
      have ez := HS.out m hlt
      have CH := hd (hand_any T1.out (m + 1) (by omega) (Z m) ez)
      obtain ⟨aH, cH, hvH⟩ := HR.out.slice
      subst hvH
      have hgl := hd (fun g (hg : L (130 + (m + 1)) = some g) => Nat.lt_trans (HO.out (130 + (m + 1)) g (by omega) hg) hz)
      clear ez q1 q2 HPF HLg hn HTb HP0 hi0 hz0 hz1 hz2 hC0
      generalize hm1 : m + 1 = m1 at *
      go_wp2_with fail
      refine CH.out.mono ?_
      rintro e w2 ⟨rfl, h2, b2⟩
      obtain ⟨v', w3, hrun, h3⟩ := HR.out.push b2 (HK.new (by rw [← hm1] at h2; simpa using h2)) (by rw [hm1]; exact hgl.out) (by omega)
      have e1 : upd (fun _ : Nat => (none : Option Nat)) m none = fun _ => none := upd_self (fun _ => none) m
      have e2 : upd (fun c => L (130 + (c + 1))) m (L (130 + m1)) = fun c => L (130 + (c + 1)) := by rw [← hm1]; exact upd_self (fun c => L (130 + (c + 1))) m
      have e3 : upd Z m (Z m) = Z := upd_self Z m
      have e4 : upd (fun c => wk0 (Z c)) m (wk0 (Z m)) = fun c => wk0 (Z c) := upd_self (fun c => wk0 (Z c)) m
      rw [hm1, e1, e2, e3, e4] at h3
      have H3 := hd h3
      have ml : m1 ≤ C := by omega
      have hm0 : C + 1 - (m1 + 1) < C + 1 - m1 := by omega
      clear h3 h2 b2 e1 e2 e3 e4 CH HR T1 hgl hlt hm
      go_wp2_with (at_builtin; refine wpList_append_k _ rfl _ _ 125 125 rfl _ _ rfl rfl (hrun _) ?_)
      exact ⟨⟨m1, _, ml, by go_num, H3.out⟩, by simp [intOf]; omega⟩
    · have eC : m = C := by omega
      have i1 : ¬ (((m + 1 : Nat) : Int) ≤ (C : Int)) := by omega
      have HR2 := HR
      rw [eC] at HR2
      obtain ⟨gH, cH, hvH, hcH1, hcH2⟩ := HR2.out.at hC0
      subst hvH
      generalize hm1 : m + 1 = m1 at *
      have hM := hd hm1
      clear HR q2 HS HO T1 hm1 hlt eC hm
      have lxr : x < wr.heap.size := by have := HR2.out.bel.size; omega
      go_wp2_with (at_make; refine wpList_make_k _ rfl _ _ 63 rfl 69 i0 _ Tryz.underlying63 hi0 hz0 _ _ _ _ 0 nL rfl rfl rfl rfl (Nat.zero_le _) (by rw [hz2]; omega) (by omega) ?_; intro w3 cur hg3 hcur hb3; have q1 := (hb3.out.cell (p := ⟨x, 1, none⟩) lxr).trans q1)
      have J0 := hd (IB.start (log := log) (E := E) HR2.out HZ.out hb3.out hg3.out (n := nL) (by have := hcur.out; rw [hz1] at this; rw [this, madeCells_len _ _ (by decide)]; exact Nat.le_refl _) (by omega))
      clear hi0 hz0 hz1 hz2 hg3 hcur hb3 HR2 q0 HT HZ q1
      go_loopw [5, 41] (fun vd i wr => ∃ k : Nat, k ≤ nL ∧ i = .int .i64 (k : Int) ∧ Hid (IB w1 wr C (.slice (some ⟨gH, 0, none⟩) C cH) vd X (fun c => L (130 + (c + 1))) log E k)) (fun _ i _ => nL - (intOf i).toNat)
      case atStart => exact ⟨0, Nat.zero_le _, rfl, J0⟩
      case round =>
        obtain ⟨k, hk, rfl, HI⟩ := hrel
        clear J0
        obtain ⟨aD, cD, hvD, HBR, β, hFO, hβ⟩ := HI.out.out
        have hlen := HPF.out.len k (by have := HLg.out.1; omega)
        rw [hlen] at hvD
        subst hvD
        by_cases hlt : k < nL
        · have i1 : (k : Int) < (nL : Int) := by omega
          have hkl : k < log.length := by have := HLg.out.1; omega
          obtain ⟨b, off, hab, -⟩ := HLg.out.2 (by omega)
          subst hab
          obtain ⟨hb1, n0, n1, n2, n3, n4, n5⟩ := HLg.out.cell hkl
          have l0 := (HBR.cell (p := ⟨b, off + k * 6, none⟩) hb1).trans n0
          have l1 := (HBR.cell (p := ⟨b, off + k * 6 + 1, none⟩) hb1).trans n1
          have l2 := (HBR.cell (p := ⟨b, off + k * 6 + 2, none⟩) hb1).trans n2
          have l3 := (HBR.cell (p := ⟨b, off + k * 6 + 3, none⟩) hb1).trans n3
          have l4 := (HBR.cell (p := ⟨b, off + k * 6 + 4, none⟩) hb1).trans n4
          have l5 := (HBR.cell (p := ⟨b, off + k * 6 + 5, none⟩) hb1).trans n5
          obtain ⟨nI, hnI⟩ : ∃ nI : Nat, log[k].o.cl = (nI : Int) := ⟨log[k].o.cl.toNat, by have := (HPF.out.cl k hkl).1; omega⟩
          rw [hnI] at l4
          have HN := hd hnI
          have HKL := hd hkl
          have JM := hd (HI.out.making ((Below.refl _ _).alloc (Nat.le_refl _) _) (heap_alloc_new wr (.cells #[.int .i64 log[k].tag, .int .i64 log[k].o.kind, .int .i64 log[k].o.pos, .int .u8 log[k].o.ch, .int .i64 (nI : Int), .int .i64 log[k].o.sq] 74)))
          clear HI HBR hFO hβ hlen hnI n0 n1 n2 n3 n4 n5 hb1
          generalize log[k].tag = e0 at *
          generalize log[k].o.kind = e1 at *
          generalize log[k].o.pos = e2 at *
          generalize log[k].o.ch = e3 at *
          generalize log[k].o.sq = e5 at *
          go_upto_region 10 with fail
          generalize wr.alloc (.cells #[.int .i64 e0, .int .i64 e1, .int .i64 e2, .int .u8 e3, .int .i64 (nI : Int), .int .i64 e5] 74) = w4 at *
          generalize wr.heap.size = be at *
          clear l0 l1 l2 l3 l4 l5
          go_wp2_with fail
          go_loopw [47] (fun i wr => ∃ c : Nat, c ≤ C ∧ i = .int .i64 (c : Int) ∧ Hid (IC w1 wr C (.slice (some ⟨gH, 0, none⟩) C cH) (.slice aD k cD) X (fun c => L (130 + (c + 1))) (fun c => (stW apE log E k).1 (c + 1)) (stW apE log E k).2 be #[.int .i64 e0, .int .i64 e1, .int .i64 e2, .int .u8 e3, .int .i64 (nI : Int), .int .i64 e5] c)) (fun i _ => C - (intOf i).toNat)
          case atStart => exact ⟨0, Nat.zero_le _, rfl, JM⟩
          case round =>
            obtain ⟨c, hc, rfl, HC⟩ := hrel
            clear JM
            by_cases hcl : c < C
            · have j1 : (c : Int) < (C : Int) := by omega
              have cp := HC.out.ptr hcl
              have JD := hd (HC.out.start (HPF.out.gw k (c + 1)))
              clear HC
              go_wp2_with fail
              clear cp
              go_loopw [] (fun wr => Hid (ID w1 wr C (.slice (some ⟨gH, 0, none⟩) C cH) (.slice aD k cD) X (fun c => L (130 + (c + 1))) (fun c => (stW apE log E k).1 (c + 1)) (stW apE log E k).2 be #[.int .i64 e0, .int .i64 e1, .int .i64 e2, .int .u8 e3, .int .i64 (nI : Int), .int .i64 e5] c)) (fun wr => lenAt wr (X c))
              case atStart => exact JD
              case round =>
                clear JD
                have CD := hd (hrel.out.due hcl)
                clear hrel
                go_wp2_with fail
                refine CD.out.mono ?_
                rintro e w5 ⟨d, rfl, h1, h2⟩
                cases d with
                | false =>
                  have JC := hd (h1 rfl)
                  have hcm : C - (c + 1) < C - c := by omega
                  clear h1 h2 CD
                  go_wp2_with fail
                  exact ⟨⟨c + 1, by omega, by go_num, JC⟩, by simp [intOf]; omega⟩
                | true =>
                  obtain ⟨B, Z', k', f1, f2, f3, f4, f5, f6⟩ := h2 rfl
                  have CM := hd (ID.make f1 hcl f2 f3 f4 f6)
                  have F5 := hd f5
                  clear h1 h2 CD f1 f2 f3 f4 f5 f6
                  go_wp2_with fail
                  refine CM.out.mono ?_
                  rintro e w6 ⟨⟨r, rfl⟩, h3, h4⟩
                  have JD := hd h3
                  have ML : Hid (lenAt w6 (X c) < lenAt wr (X c)) := by
                    show _ < _
                    rw [F5.out]; exact h4
                  clear h3 h4 CM F5
                  go_wp2_with fail
                  exact ⟨JD, ML.out⟩
            · have eC : c = C := by omega
              have j1 : ¬ ((c : Int) < (C : Int)) := by omega
              have HC2 := HC
              rw [eC] at HC2
              obtain ⟨mI, gf, of, nf, cf, hm, hmC, m4, hn0, hn1, hn2, hgf, hxm, r0, r1, r2, r3, r4⟩ := HC2.out.rec HPF.out HKL.out
              have hmn : nI = mI + 1 := by have := HN.out; omega
              have ct := HC2.out.ptr hmC
              have ce : wr.cell? ⟨be, 4, none⟩ = some (.int .i64 (nI : Int)) := by rw [cell_row HC2.out.2]; rfl
              have hbe : be < wr.heap.size := block_lt HC2.out.2
              have JE := hd (HC2.out.took (w' := wr.alloc (.cells (opc (opK apE log E k)).toArray 69)) ((Below.refl _ _).alloc (Nat.le_refl _) _) (heap_alloc_new wr _))
              have HMI := hd hmn
              have k1 : (nI : Int) - 1 = (mI : Int) := by omega
              have k2 : (mI : Int) < (C : Int) := by omega
              simp only [opc] at JE
              clear HC HC2 eC hm hmn hmC hcl hc
              go_upto_region 17 with fail
              generalize wr.alloc (.cells #[.int .i64 (opK apE log E k).kind, .int .i64 (opK apE log E k).pos, .int .u8 (opK apE log E k).ch, .int .i64 (opK apE log E k).cl, .int .i64 (opK apE log E k).sq] 69) = w7 at *
              generalize wr.heap.size = rb at *
              clear ct ce m4 r0 r1 r2 r3 r4 hbe hgf hxm
              go_wp2_with fail
              go_loopw [70] (fun i wr => ∃ c : Nat, c ≤ C ∧ i = .int .i64 (c : Int) ∧ Hid (IE w1 wr C (.slice (some ⟨gH, 0, none⟩) C cH) (.slice aD k cD) X (fun c => L (130 + (c + 1))) (fun c => (stW apE log E k).1 (c + 1)) (stW apE log E k).2 (opK apE log E k) rb c)) (fun i _ => C - (intOf i).toNat)
              case atStart => exact ⟨0, Nat.zero_le _, rfl, JE⟩
              case round =>
                obtain ⟨c, hc, rfl, HE⟩ := hrel
                clear JE
                obtain ⟨⟨r0, r1, r2, r3, r4⟩, -⟩ := cellsF (show wr.heap[rb]? = some (.cells #[.int .i64 (opK apE log E k).kind, .int .i64 (opK apE log E k).pos, .int .u8 (opK apE log E k).ch, .int .i64 (opK apE log E k).cl, .int .i64 (opK apE log E k).sq] 69 (0, 0)) from HE.out.2)
                by_cases hcl : c < C
                · have j2 : (c : Int) < (C : Int) := by omega
                  have cp := HE.out.ptr hcl
                  have CT := hd (HE.out.take HTb.out hcl (fun e => HPF.out.ne HKL.out c e) (HPF.out.gw k (c + 1)) (by have := HPF.out.hav k (c + 1) (Nat.le_of_lt HKL.out); omega) (HPF.out.ok HKL.out))
                  simp only [OpE.val] at CT
                  have hcm : C - (c + 1) < C - c := by omega
                  clear HE
                  go_wp2_with fail
                  refine CT.out.mono ?_
                  rintro e w8 ⟨⟨r, rfl⟩, h3⟩
                  have JE := hd h3
                  clear h3 CT cp r0 r1 r2 r3 r4
                  go_wp2_with fail
                  exact ⟨⟨c + 1, by omega, by go_num, JE⟩, by simp [intOf]; omega⟩
                · have eC : c = C := by omega
                  have j2 : ¬ ((c : Int) < (C : Int)) := by omega
                  have HE2 := HE
                  rw [eC] at HE2
                  obtain ⟨aN, cN, w9, hrun, hB⟩ := HE2.out.fin HPF.out HKL.out (by omega)
                  have JB := hd hB
                  simp only [opc] at hrun
                  have hkm : nL - (k + 1) < nL - k := by omega
                  clear HE HE2 eC hB hcl hc
                  go_wp2_with (at_builtin; refine wpList_append_k _ rfl _ _ 63 63 rfl _ _ rfl rfl (hrun _) ?_)
                  exact ⟨⟨k + 1, by omega, by go_num, JB⟩, by simp [intOf]; omega⟩
        · have eK : k = nL := by omega
          have i1 : ¬ ((k : Int) < (nL : Int)) := by omega
          have hp := (HBR.block w.heap.size hz).trans HP0.out
          have p0 := cell_row hp 0
          have p1 := cell_row hp 1
          have f0 := frozen_row hp 0
          have f1 := frozen_row hp 1
          simp at p0 p1
          have Z : Hid (∀ W, Fr (· = w.heap.size) wr W → FO W β (.slice aD k cD) (stW apE log E k).2 ∧ (∀ g, β = some g → w.heap.size ≤ g) ∧ Below w.heap.size w W) := fun W hW =>
            ⟨hFO.fr hW (fun g hg e => by have := hβ g hg; omega), fun g hg => by have := hβ g hg; omega, (HB1.out.trans (HBR.mono HB1.out.size)).trans (hW.below (by have := HBR.size; omega) (fun j hj => by omega))⟩
          have ZF : Hid (Fr (· = w.heap.size) wr ((wr.setCell ⟨w.heap.size, 0, none⟩ (.pointer (some ⟨x, 0, none⟩))).setCell ⟨w.heap.size, 1, none⟩ (.slice aD k cD))) := (Fr.setCell (S := (· = w.heap.size)) wr ⟨w.heap.size, 0, none⟩ _ rfl).trans (Fr.setCell (S := (· = w.heap.size)) _ ⟨w.heap.size, 1, none⟩ _ rfl)
          have EK := hd eK
          clear HI HBR hFO hβ hlen hp eK hlt
          go_wp2
          refine bodyPost_ret (v := .agg #[.pointer (some ⟨x, 0, none⟩), .slice aD k cD]) (by simp [results, Tryz.results17, go_sem, p0, p1]) rfl ?_
          obtain ⟨z1, z2, z3⟩ := Z.out _ ZF.out
          have ek := EK.out
          subst ek
          exact ⟨aD, cD, rfl, β, z1, z2, z3⟩
end

end Go.Proofs.YtfhghijefjhehaaGreatDoor

/-! Oa -/
namespace Go.Proofs.YtfhghijefjhehaaGreatDoor
open Go.RowKit
set_option linter.unusedVariables false

/-- The two blocks of a loop: its record, and the one for deferred calls. -/
def LB (l D : Nat) (r : Loop) (W : World) : Prop := W.heap[l]? = some (.loop r) ∧ W.heap[D]? = some (.deferred (some []))

/-- How a round may be left. -/
def outPost (l D : Nat) (r : Loop) (I : World → Prop) (Ix : Code → World → Prop) : Exit → Act → World → Prop
  | .normal, _, W' => LB l D r W' ∧ I W'
  | .ret, _, W' => LB l D r W' ∧ Ix .ret W'
  | .exit id, _, W' => LB l D r W' ∧ Ix (.exit id) W'
  | .goto t, _, W' => LB l D r W' ∧ Ix (.goto t) W'
  | .panic _, _, _ => False
  | .outgrown, _, _ => False

end Go.Proofs.YtfhghijefjhehaaGreatDoor

/-! Ob -/
namespace Go.Proofs.YtfhghijefjhehaaGreatDoor
open Go.RowKit
set_option linter.unusedVariables false

/-- What a round is given: the operation, where the text lies, the walker; what the rounds before were given. -/
structure PV where
  o : OpE
  hav : Nat
  made : Nat
  v : Value
  doc : List El
def PV.view (p : PV) : Vw := ⟨p.hav, p.made, p.doc⟩
structure Sy where
  o : OpE
  vt : Value
  k : Wk
  β : Option Nat
  ds : List Dd
  pre : List PV
def Sy.pv (x : Sy) : PV := ⟨x.o, x.k.hav, x.k.made, x.vt, x.k.text⟩
def encS (x : Sy) : Array Value := #[x.o.val, .agg #[.int .i64 x.k.hav, .int .i64 x.k.made, x.vt]]

/-- What the iterator writes: hands and operations, from block B0 on. -/
def FrI (B0 : Nat) (w w' : World) : Prop := Fr (fun j => B0 ≤ j ∧ ∃ cs t, w.heap[j]? = some (.cells cs t (0, 0)) ∧ (t = 131 ∨ t = 69)) w w'
theorem FrI.trans {B0 : Nat} {a b c : World} (h : FrI B0 a b) (k : FrI B0 b c) : FrI B0 a c := by
  refine Fr.next h k (fun i hi hs => ?_)
  by_cases hS : B0 ≤ i ∧ ∃ cs t, a.heap[i]? = some (.cells cs t (0, 0)) ∧ (t = 131 ∨ t = 69)
  · exact hS
  · obtain ⟨h1, cs, t, h2, h3⟩ := hs
    rw [h.block i hi hS] at h2
    exact ⟨h1, cs, t, h2, h3⟩
theorem FrI.of_below {B0 : Nat} {w w' : World} (h : Below w.heap.size w w') : FrI B0 w w' := Fr.of_below h

/-- The iterator's state: the hand at xh, the operation at ob, the text t. -/
structure It (B0 xh ob bp xt : Nat) (γ βd : Option Nat) (vd : Value) (done : List OpE) (id : Int) (x : Sy) (t : List El) (W : World) : Prop where
  hk : HK W xh x.β γ id x.ds x.k
  op : W.heap[ob]? = some (.cells (opc x.o).toArray 69 (0, 0))
  tx : ∃ βt, SE W βt x.vt t
  bx : W.heap[bp]? = some (.cells #[.pointer (some ⟨xt, 0, none⟩), vd] 65 (0, 0))
  dn : FO W βd vd done
  tb : Table W
  lx : B0 ≤ xh
  lob : B0 ≤ ob
  lb : ∀ g, x.β = some g → B0 ≤ g ∧ g ≠ ob
  lg : ∀ g, γ = some g → g < B0
  ld : ∀ g, βd = some g → g < B0
  lp : bp < B0
  lt : 1 < B0
  sz : B0 ≤ W.heap.size
  gw : GW x.k
  hv : x.k.hav ≤ 4096

theorem SE.blk {w : World} {g : Nat} {v : Value} {xs : List El} (h : SE w (some g) v xs) : ∃ cs, w.heap[g]? = some (.cells cs 42 (0, 0)) := by
  obtain ⟨c, -, cur, h2, -⟩ := h
  exact ⟨_, h2⟩
theorem FO.blk {w : World} {g : Nat} {v : Value} {fs : List OpE} (h : FO w (some g) v fs) : ∃ cs, w.heap[g]? = some (.cells cs 69 (0, 0)) := by
  obtain ⟨off, cap, cur, -, h2, -⟩ := h
  exact ⟨_, h2⟩
theorem DS.blk {w : World} {g : Nat} {v : Value} {ds : List Dd} (h : DS w (some g) v ds) : ∃ cs, w.heap[g]? = some (.cells cs 143 (0, 0)) := by
  obtain ⟨off, cap, cur, -, h2, -⟩ := h
  exact ⟨_, h2⟩

section
variable {B0 xh ob bp xt : Nat} {γ βd : Option Nat} {vd : Value} {done : List OpE} {id : Int} {x : Sy} {t : List El} {W W' : World}
/-- What touches none of its types. -/
theorem It.fr {S : Nat → Prop} (h : It B0 xh ob bp xt γ βd vd done id x t W) (hF : Fr S W W') (hS : ∀ j cs t, S j → W.heap[j]? = some (.cells cs t (0, 0)) → t ≠ 131 ∧ t ≠ 69 ∧ t ≠ 42 ∧ t ≠ 143 ∧ t ≠ 65) (hB : ¬ S 1) : It B0 xh ob bp xt γ βd vd done id x t W' := by
  obtain ⟨vS, vF, k1, k2, k3⟩ := h.hk.hd.blk
  obtain ⟨βt, ht⟩ := h.tx
  refine ⟨h.hk.fr hF (fun hs => (hS _ _ _ hs k1).1 rfl) (fun g hg hs => ?_) (fun g hg hs => ?_), hF.keeps h.op (fun hs => (hS _ _ _ hs h.op).2.1 rfl), ⟨βt, ht.fr hF (fun g hg hs => ?_)⟩, hF.keeps h.bx (fun hs => (hS _ _ _ hs h.bx).2.2.2.2 rfl), h.dn.fr hF (fun g hg hs => ?_), h.tb.fr hF hB, h.lx, h.lob, h.lb, h.lg, h.ld, h.lp, h.lt, Nat.le_trans h.sz hF.size, h.gw, h.hv⟩
  · rw [hg] at k3
    obtain ⟨cs, hc⟩ := k3.blk
    exact (hS _ _ _ hs hc).2.1 rfl
  · rw [hg] at k2
    obtain ⟨cs, hc⟩ := k2.blk
    exact (hS _ _ _ hs hc).2.2.2.1 rfl
  · subst hg
    obtain ⟨cs, hc⟩ := ht.blk
    exact (hS _ _ _ hs hc).2.2.1 rfl
  · have hd' := h.dn
    rw [hg] at hd'
    obtain ⟨cs, hc⟩ := hd'.blk
    exact (hS _ _ _ hs hc).2.1 rfl
theorem It.below (h : It B0 xh ob bp xt γ βd vd done id x t W) (hb : Below W.heap.size W W') : It B0 xh ob bp xt γ βd vd done id x t W' := h.fr (S := fun _ => False) (Fr.of_below hb) (fun _ _ _ hs => hs.elim) (fun h => h)

/-- The hand goes on; the operation and the text are as they were. -/
theorem It.hand (h : It B0 xh ob bp xt γ βd vd done id x t W) {β' : Option Nat} {ds' : List Dd} {k' : Wk} (hk' : HK W' xh β' γ id ds' k') (hF : Fr (fun j => j = xh ∨ x.β = some j) W W') (hβ : ∀ g, β' = some g → x.β = some g ∨ W.heap.size ≤ g) (hg : GW k') (hv : k'.hav ≤ 4096) :
    It B0 xh ob bp xt γ βd vd done id ⟨x.o, x.vt, k', β', ds', x.pre⟩ t W' ∧ FrI B0 W W' := by
  obtain ⟨vS, vF, k1, k2, k3⟩ := h.hk.hd.blk
  obtain ⟨βt, ht⟩ := h.tx
  have lo : ob < W.heap.size := block_lt h.op
  have hSb : ∀ j, (j = xh ∨ x.β = some j) → B0 ≤ j := fun j hj => by
    rcases hj with rfl | hj
    · exact h.lx
    · exact (h.lb j hj).1
  have hxo : ob ≠ xh := fun e => by
    have := h.op
    rw [e, k1] at this
    simp at this
  refine ⟨⟨hk', hF.keeps h.op (fun hs => ?_), ⟨βt, ht.fr hF (fun g hg hs => ?_)⟩, hF.keeps h.bx (fun hs => ?_), h.dn.fr hF (fun g hg hs => ?_), h.tb.fr hF (fun hs => ?_), h.lx, h.lob, fun g hg => ?_, h.lg, h.ld, h.lp, h.lt, Nat.le_trans h.sz hF.size, hg, hv⟩, hF.mono (fun j hj hs => ⟨hSb j hs, ?_⟩)⟩
  · rcases hs with hs | hs
    · exact hxo hs
    · exact (h.lb _ hs).2 rfl
  · subst hg
    obtain ⟨cs, hc⟩ := ht.blk
    rcases hs with hs | hs
    · rw [hs, k1] at hc
      simp at hc
    · rw [hs] at k3
      obtain ⟨cs', hc'⟩ := k3.blk
      rw [hc] at hc'
      simp at hc'
  · have := hSb _ hs
    have := h.lp
    omega
  · have := hSb _ hs
    have := h.ld g hg
    omega
  · have := hSb _ hs
    have := h.lt
    omega
  · rcases hβ g hg with h1 | h1
    · exact h.lb g h1
    · exact ⟨Nat.le_trans h.sz h1, by omega⟩
  · rcases hs with hs | hs
    · exact ⟨_, _, by rw [hs]; exact k1, .inl rfl⟩
    · rw [hs] at k3
      obtain ⟨cs', hc'⟩ := k3.blk
      exact ⟨_, _, hc', .inr rfl⟩

theorem It.due (h : It B0 xh ob bp xt γ βd vd done id x t W) :
    Calls Tryz.prog 47 #[.pointer (some ⟨xh, 0, none⟩)] W fun e W' => e = .returned (.bool x.k.due) ∧ It B0 xh ob bp xt γ βd vd done id x t W' ∧ FrI B0 W W' := by
  refine (due_k h.hk).mono ?_
  rintro e W' ⟨rfl, hb⟩
  exact ⟨rfl, h.below hb, FrI.of_below hb⟩

theorem It.make (h : It B0 xh ob bp xt γ βd vd done id x x.k.text W) (hd' : x.k.due = true) :
    Calls Tryz.prog 48 #[.pointer (some ⟨xh, 0, none⟩)] W fun e W' => ∃ r : OpE, e = .returned r.val ∧ (fitsP x.k.text.length r = 0 ∧ okC r ∧ apE x.k.text r = (x.k.mk1 apE).text) ∧ (∃ β' ds', It B0 xh ob bp xt γ βd vd done id ⟨x.o, x.vt, x.k.mk1 apE, β', ds', x.pre⟩ x.k.text W') ∧ FrI B0 W W' := by
  have hk := h.hk
  have hg := h.gw
  obtain ⟨y, l, hs, ht⟩ := due_cons hd'
  cases hz : x.ds with
  | nil =>
    have := hk.st
    rw [hz, hs] at this
    simp at this
  | cons d dl =>
    have hst := hk.st
    rw [hz, hs] at hst
    have hx : d.e = y := by simp at hst; exact hst.1
    rw [hz] at hk
    have hn := hg.n
    have hf := hg.f
    have hy : okC y.o := hg.s y (by rw [hs]; simp)
    refine (makeNext_k hk (by rw [hx]; exact hy.1) (by omega) (by omega)).mono ?_
    rintro e w' ⟨rfl, ⟨g', h1, h2⟩, hF⟩
    obtain ⟨m1, m2, -, -⟩ := mk1_still (ap := apE) hs
    obtain ⟨z1, z2⟩ := h.hand h1 hF (fun g hg' => by injection hg' with hg'; subst hg'; exact h2) hg.mk1 (by rw [m2]; exact h.hv)
    refine ⟨_, rfl, ⟨?_, ?_, ?_⟩, ⟨_, _, z1⟩, z2⟩
    · rw [hx]; exact fits_fit hy hk.le
    · rw [hx]; exact fit_ok _ hy
    · rw [hx]
      unfold Wk.mk1
      rw [hs]

theorem It.take (h : It B0 xh ob bp xt γ βd vd done id x x.k.text W) (o : OpE) (hne : o.cl = id → x.k.forms ≠ []) (hh : x.k.hav < 4096) (h0 : okC o) :
    Calls Tryz.prog 49 #[.pointer (some ⟨xh, 0, none⟩), o.val] W fun e W' => ∃ r : OpE, e = .returned r.val ∧ (fitsP x.k.text.length r = 0 ∧ okC r ∧ apE x.k.text r = (x.k.take apE o (o.cl == id)).text) ∧ (∃ β' ds', It B0 xh ob bp xt γ βd vd done id ⟨x.o, x.vt, x.k.take apE o (o.cl == id), β', ds', x.pre⟩ x.k.text W') ∧ FrI B0 W W' := by
  have hk := h.hk
  have hg := h.gw
  have hn := hg.n
  have hf := hg.f
  have hxT : 1 ≠ xh := by have := h.lt; have := h.lx; omega
  have hhv : (x.k.take apE o (o.cl == id)).hav ≤ 4096 := by
    unfold Wk.take
    split
    · exact hh
    · exact hh
  by_cases ho : o.cl = id
  · have e : (o.cl == id) = true := by simpa using ho
    rw [e] at hhv ⊢
    refine (takeIn_kown hk o ho (hne ho) (by omega)).mono ?_
    rintro e w' ⟨rfl, h1, hF⟩
    obtain ⟨z1, z2⟩ := h.hand h1 (hF.mono (fun j _ hj => .inl hj)) (fun g hg' => .inl hg') (hg.take _ _) hhv
    exact ⟨_, rfl, ⟨fits_nop h0 hk.le, nop_ok h0, by rw [ap_nop]; rfl⟩, ⟨_, _, z1⟩, z2⟩
  · have e : (o.cl == id) = false := by simpa using ho
    rw [e] at hhv ⊢
    refine (takeIn_kother hk h.tb hxT o ho (by omega) (by omega) h0.1).mono ?_
    rintro e w' ⟨rfl, ⟨g, hgg, h1⟩, hF⟩
    obtain ⟨z1, z2⟩ := h.hand h1 (hF.mono (fun j _ hj => .inl hj)) (fun g' e => by injection e with e; exact .inr (by omega)) (hg.take _ _) hhv
    exact ⟨_, rfl, ⟨fits_fit (through_ok1 _ _ _ h0) hk.le, fit_ok _ (through_ok1 _ _ _ h0), by rw [ap_fit]; rfl⟩, ⟨_, _, z1⟩, z2⟩

/-- The operation is stored. -/
theorem It.store (h : It B0 xh ob bp xt γ βd vd done id x t W) (r : OpE) : It B0 xh ob bp xt γ βd vd done id ⟨r, x.vt, x.k, x.β, x.ds, x.pre⟩ t (set5 W ob 0 r.kind r.pos r.ch r.cl r.sq) ∧ FrI B0 W (set5 W ob 0 r.kind r.pos r.ch r.cl r.sq) := by
  have hF := Fr.set5 W ob 0 r.kind r.pos r.ch r.cl r.sq
  obtain ⟨vS, vF, k1, k2, k3⟩ := h.hk.hd.blk
  obtain ⟨βt, ht⟩ := h.tx
  have lo := h.lob
  refine ⟨⟨h.hk.fr hF (fun hs => ?_) (fun g hg hs => (h.lb g hg).2 hs) (fun g hg hs => ?_), set5_op h.op _ _ _ _ _, ⟨βt, ht.fr hF (fun g hg hs => ?_)⟩, hF.keeps h.bx (fun hs => ?_), h.dn.fr hF (fun g hg hs => ?_), h.tb.fr hF (fun hs => ?_), h.lx, h.lob, h.lb, h.lg, h.ld, h.lp, h.lt, Nat.le_trans h.sz hF.size, h.gw, h.hv⟩, hF.mono (fun j _ hj => ?_)⟩
  · have := h.op
    rw [← hs, k1] at this
    simp at this
  · have := h.lg g hg
    omega
  · subst hg
    obtain ⟨cs, hc⟩ := ht.blk
    rw [hs, h.op] at hc
    simp at hc
  · have := h.lp
    omega
  · have := h.ld g hg
    omega
  · have := h.lt
    omega
  · subst hj
    exact ⟨lo, _, _, h.op, .inr rfl⟩

/-- The text behind the operation. -/
theorem It.apply (h : It B0 xh ob bp xt γ βd vd done id x t W) (r : OpE) (hf : fitsP t.length r = 0) (h0 : okC r) :
    Calls Tryz.prog 51 #[x.vt, r.val] W fun e W' => ∃ a c, e = .returned (.tuple #[.slice a (List.length (α := El) (apE t r)) c, .int .i64 0]) ∧ It B0 xh ob bp xt γ βd vd done id ⟨x.o, .slice a (List.length (α := El) (apE t r)) c, x.k, x.β, x.ds, x.pre⟩ (apE t r) W' ∧ FrI B0 W W' := by
  obtain ⟨βt, ht⟩ := h.tx
  obtain ⟨a, c, hv, hE, -⟩ := ht.form
  obtain ⟨k, p, ch, l, s⟩ := r
  rw [hv]
  refine (apply_good a t.length c k p ch l s t W hE h0.1.1 h0.1.2 hf).mono ?_
  rintro e W' ⟨v, rfl, hO, hb⟩
  have e1 : applyP t ⟨k, p, ch, l, s⟩ = apE t ⟨k, p, ch, l, s⟩ := by
    unfold apE applyP
    rw [if_pos hf]
    rfl
  rw [e1] at hO
  obtain ⟨g, -, hO⟩ := hO
  obtain ⟨a', c', rfl, -⟩ := hO.form
  have z := h.below hb
  exact ⟨a', c', rfl, ⟨z.hk, z.op, ⟨_, hO⟩, z.bx, z.dn, z.tb, z.lx, z.lob, z.lb, z.lg, z.ld, z.lp, z.lt, z.sz, z.gw, z.hv⟩, FrI.of_below hb⟩
end

end Go.Proofs.YtfhghijefjhehaaGreatDoor

/-! Oc -/
namespace Go.Proofs.YtfhghijefjhehaaGreatDoor
open Go.RowKit
set_option linter.unusedVariables false

section
variable {F : Fence} {n : Nat} {P : Program} {md : Region.Mode} {ops : Array Oper} {Q : Exit → Act → World → Prop}

/-- Whatever the order: an assertion on what has come up so far, kept by each operation. -/
theorem wpAnyIn_inv (I : Array Bool → Act → World → Prop)
    (hs : ∀ listed a w (i : Nat) (o : Oper), I listed a w → ops[i]? = some o → listed.getD i true = false → (∀ e ∈ o.after, Region.binds md e = true → listed.getD e.on false = true) → wpOpIn F n P ops Q i (I (listed.setIfInBounds i true)) a w)
    (he : ∀ listed a w, I listed a w → (∀ (i : Nat) (o : Oper), ops[i]? = some o → listed.getD i true = false → ¬ (∀ e ∈ o.after, Region.binds md e = true → listed.getD e.on false = true)) → Q .normal a w) :
    ∀ fuel listed a w, listed.toList.count false ≤ fuel → I listed a w → wpAnyIn F n P md ops Q fuel listed a w := by
  have hend : ∀ listed a w, I listed a w → Region.ready md ops listed = [] → Q .normal a w := fun listed a w hI hr => he listed a w hI fun i o ho hu hall => by
    have : i ∈ Region.ready md ops listed := mem_ready.2 ⟨hu, o, ho, hall⟩
    rw [hr] at this
    cases this
  intro fuel
  induction fuel with
  | zero =>
    intro listed a w hc hI
    have hr : Region.ready md ops listed = [] := by
      cases h : Region.ready md ops listed with
      | nil => rfl
      | cons i l =>
        have hi : i ∈ Region.ready md ops listed := by rw [h]; simp
        have h1 := (getD_false (mem_ready.1 hi).1).1
        have h2 := count_set h1
        omega
    exact ⟨hr, hend _ _ _ hI hr⟩
  | succ fuel ih =>
    intro listed a w hc hI
    refine ⟨hend _ _ _ hI, fun i hi => ?_⟩
    obtain ⟨hu, o, ho, hall⟩ := mem_ready.1 hi
    refine wpOpIn_mono (fun a' w' h' => ih _ a' w' ?_ h') (hs listed a w i o hI ho hu hall)
    have h1 := count_set (getD_false hu).1
    rw [Array.toList_setIfInBounds]
    omega

theorem wpIn_region_inv {id : Nat} {a : Act} {w : World} (hm : P.follows .mixedOrders = true) (hT : Earlier ops) (I : (Nat → Prop) → Act → World → Prop)
    (hs : ∀ (L L' : Nat → Prop) a w (i : Nat) (o : Oper), I L a w → ops[i]? = some o → ¬ L i → (∀ e ∈ o.after, Region.binds .any e = true → L e.on) → (∀ j, L' j ↔ (j = i ∨ L j)) → wpOpIn F n P ops Q i (I L') a w)
    (he : ∀ (L : Nat → Prop) a w, I L a w → (∀ i, i < ops.size → L i) → Q .normal a w)
    (h0 : ∀ L : Nat → Prop, (∀ i, ¬ L i) → I L a w.drew) : (Code.region id ops true).wpIn F n P Q a w := by
  refine wpIn_region_any hm (wpAnyIn_inv (fun listed a w => listed.size = ops.size ∧ I (fun i => listed.getD i false = true) a w) ?_ ?_ ops.size _ a _ ?_ ⟨by simp, h0 _ ?_⟩)
  · rintro listed a w i o ⟨hz, hI⟩ ho hu hall
    have hi := (getD_false hu).2
    refine wpOpIn_mono (fun a' w' h' => ⟨by simpa using hz, h'⟩) (hs _ _ a w i o hI ho ?_ hall ?_)
    · simp [Array.getD, hi] at hu ⊢
      exact hu
    · intro j
      by_cases hj : j = i
      · subst hj
        simp [Array.getD, hi]
      · simp only [hj, false_or]
        have : (listed.setIfInBounds i true).getD j false = listed.getD j false := by
          rw [Array.getD_eq_getD_getElem?, Array.getD_eq_getD_getElem?, Array.getElem?_setIfInBounds_ne (Ne.symm hj)]
        rw [this]
  · rintro listed a w ⟨hz, hI⟩ h
    exact he _ a w hI (all_listed hT hz h)
  · simp
  · intro i
    by_cases hi : i < ops.size <;> simp [Array.getD, hi]
end


section
variable {ops : Array Oper} {o : Oper} {a : Act} {w : World} {K : Act → World → Prop} {Q : Exit → Act → World → Prop} {i N : Nat}
theorem depJ {L : Nat → Prop} (ho : ops[i]? = some o) (hall : ∀ e ∈ o.after, Region.binds .any e = true → L e.on) (k : Nat) (h : (ops[i]?).map (fun o => o.after.any (fun e => Region.binds .any e && e.on == k)) = some true) : L k := by
  rw [ho] at h
  simp only [Option.map_some, Option.some.injEq, Array.any_eq_true'] at h
  obtain ⟨e, he, hb⟩ := h
  simp only [Bool.and_eq_true, beq_iff_eq] at hb
  exact hb.2 ▸ hall e he hb.1
theorem fieldsJ {d : Option Tmp} {p : Op} (ho : ops[i]? = some o) (h : (ops[i]?).map (fun o => (o.dst, o.op, o.guard)) = some (d, p, none)) : o.dst = d ∧ o.op = p ∧ o.guard = none := by
  rw [ho] at h
  simpa using h
/-- An operation that only reads. -/
theorem ow_value (ho : ops[i]? = some o) {d : Option Tmp} {p : Op} (h : (ops[i]?).map (fun o => (o.dst, o.op, o.guard)) = some (d, p, none)) {v : Value} (hr : ∀ o : Oper, o.op = p → (execOp a.eval o).run Tryz.prog w = .ok (.value v) w) (hK : K (a.put d v) w) : wpOpIn Fence.wide N Tryz.prog ops Q i K a w := by
  obtain ⟨h1, h2, h3⟩ := fieldsJ ho h
  unfold wpOpIn
  rw [ho]
  simp only [Region.wanted, h3, if_true]
  refine ⟨fun _ _ => trivial, ?_⟩
  rw [show Fence.wide.round = none from rfl, Oper.semAt_none, hr o h2, Oper.uponIn_value, h1]
  exact hK
/-- A call of yield. -/
theorem ow_yield (ho : ops[i]? = some o) {d : Option Tmp} (g : Operand) (xs : Array Operand) (ts : Array TypeId) (h : (ops[i]?).map (fun o => (o.dst, o.op, o.guard)) = some (d, Op.call { callee := .value g, args := xs, argTypes := ts }, none)) {l : Nat} (hg : a.eval g = .func (.yield l) #[] #[]) {vs : Array Value} (hvs : xs.map a.eval = vs) {R : Ending → World → Prop} (hY : YieldAt Fence.wide (N - 1) Tryz.prog l vs w R) (hK : ∀ e w', R e w' → ∃ v, e = .returned v ∧ K (a.put d v) w') : wpOpIn Fence.wide N Tryz.prog ops Q i K a w := by
  obtain ⟨h1, h2, h3⟩ := fieldsJ ho h
  obtain ⟨fn, tmps, assign, body, hy, hR⟩ := hY
  unfold wpOpIn
  rw [ho]
  simp only [Region.wanted, h3, if_true]
  refine ⟨fun _ _ => trivial, ?_⟩
  rw [show Fence.wide.round = none from rfl, Oper.semAt_none]
  have e1 : (execOp a.eval o).run Tryz.prog w = .ok (.round l fn tmps assign body) w := by
    simp [execOp, h2, resolve, invoke, Deferred.ofValue, hg, hvs]
    exact hy
  rw [e1, Oper.uponIn_round]
  refine ⟨fun hh => by simp [Fence.wide] at hh, hR.mono ?_⟩
  intro e w' he
  obtain ⟨v, rfl, hk⟩ := hK e w' he
  rw [h1]
  exact hk
end

noncomputable def opsS3 : Array Oper := (Tryz.f50.body.bind (opsAt 3)).getD #[]
theorem opsS3_size : opsS3.size = 13 := by kernel_rfl
theorem opsS3_earlier : Earlier opsS3 := by
  have h : (List.range 13).all (fun i => ((opsS3[i]?).map (fun o => o.after.all (fun e => !Region.binds .any e || decide (e.on < i)))).getD true) = true := by kernel_rfl
  intro i o ho e he hb
  have hi : i < 13 := by
    have := (Array.getElem?_eq_some_iff.1 ho).1
    rwa [opsS3_size] at this
  have h1 := List.all_eq_true.1 h i (List.mem_range.2 hi)
  rw [ho] at h1
  simp only [Option.map_some, Option.getD_some, Array.all_eq_true'] at h1
  have h2 := h1 e he
  rw [hb] at h2
  simpa using h2

def V3 (l xh : Nat) (x : Sy) : Nat → Value := fun j => [.func (.yield l) #[] #[], x.o.val, .pointer (some ⟨xh, 0, none⟩), .pointer (some ⟨xh, 0, none⟩), .pointer (some ⟨xh, 3, none⟩), .int .i64 x.k.hav, .pointer (some ⟨xh, 0, none⟩), .pointer (some ⟨xh, 0, none⟩), .pointer (some ⟨xh, 2, none⟩), .int .i64 x.k.made, x.vt, .agg #[.int .i64 x.k.hav, .int .i64 x.k.made, x.vt]].getD j undef
structure J3 (a0 : Act) (W : World) (l xh : Nat) (x : Sy) (Po : Bool → World → Prop) (L : Nat → Prop) (a : Act) (u : World) : Prop where
  fe : Fe a0 a ((List.range 13).map (11 + ·))
  e : ∀ j, j < 12 → L j → a.eval (.tmp (11 + j)) = V3 l xh x j
  cl : ∀ (j : Nat) (o : Oper), opsS3[j]? = some o → L j → ∀ e ∈ o.after, Region.binds .any e = true → L e.on
  wb : ¬ L 12 → u = W.drew
  wp : L 12 → ∃ b, a.eval (.tmp 23) = .bool b ∧ Po b u
theorem J3.next {a0 a : Act} {W u : World} {l xh : Nat} {x : Sy} {Po : Bool → World → Prop} {L L' : Nat → Prop} {o : Oper} (h : J3 a0 W l xh x Po L a u) (i : Nat) (hi : i < 12) (hop : opsS3[i]? = some o) (hall : ∀ e ∈ o.after, Region.binds .any e = true → L e.on) (h12 : ¬ L 12) (hu : ∀ j, L' j ↔ (j = i ∨ L j)) (hz : 54 ≤ a0.tmps.size) : J3 a0 W l xh x Po L' (a.put (some (11 + i)) (V3 l xh x i)) u := by
  refine ⟨h.fe.put (List.mem_map.2 ⟨i, List.mem_range.2 (by omega), rfl⟩) _, fun j hj hl => ?_, fun j o' ho' hl e he hb => ?_, fun _ => h.wb h12, fun hl => ?_⟩
  · by_cases e : j = i
    · subst e
      exact ev_eq _ _ (by have := h.fe.sz; omega)
    · rw [ev_ne _ _ (by omega)]
      exact h.e j hj (((hu j).1 hl).resolve_left e)
  · rcases (hu j).1 hl with e1 | e1
    · subst e1
      rw [hop] at ho'
      obtain rfl := Option.some.inj ho'
      exact (hu _).2 (.inr (hall e he hb))
    · exact (hu _).2 (.inr (h.cl j o' ho' e1 e he hb))
  · rcases (hu 12).1 hl with e | e
    · omega
    · exact absurd e h12
/-- What operation k waits for has come up. -/
theorem J3.back {a0 a : Act} {W u : World} {l xh : Nat} {x : Sy} {Po : Bool → World → Prop} {L : Nat → Prop} (h : J3 a0 W l xh x Po L a u) (j k : Nat) (hj : j < 13) (hl : L j) (hd' : (opsS3[j]?).map (fun o => o.after.any (fun e => Region.binds .any e && e.on == k)) = some true) : L k := by
  have ho : opsS3[j]? = some (opsS3[j]'(by rw [opsS3_size]; exact hj)) := Array.getElem?_eq_getElem _
  exact depJ ho (h.cl j _ ho hl) k hd'
theorem J3.all {a0 a : Act} {W u : World} {l xh : Nat} {x : Sy} {Po : Bool → World → Prop} {L : Nat → Prop} (h : J3 a0 W l xh x Po L a u) (l0 : L 0) (l1 : L 1) (l11 : L 11) : ∀ j, j < 12 → L j := by
  have l5 := h.back 11 5 (by omega) l11 (by kernel_rfl)
  have l9 := h.back 11 9 (by omega) l11 (by kernel_rfl)
  have l10 := h.back 11 10 (by omega) l11 (by kernel_rfl)
  have l4 := h.back 5 4 (by omega) l5 (by kernel_rfl)
  have l3 := h.back 4 3 (by omega) l4 (by kernel_rfl)
  have l2 := h.back 3 2 (by omega) l3 (by kernel_rfl)
  have l8 := h.back 9 8 (by omega) l9 (by kernel_rfl)
  have l7 := h.back 8 7 (by omega) l8 (by kernel_rfl)
  have l6 := h.back 7 6 (by omega) l7 (by kernel_rfl)
  intro j hj
  match j, hj with
  | 0, _ => exact l0
  | 1, _ => exact l1
  | 2, _ => exact l2
  | 3, _ => exact l3
  | 4, _ => exact l4
  | 5, _ => exact l5
  | 6, _ => exact l6
  | 7, _ => exact l7
  | 8, _ => exact l8
  | 9, _ => exact l9
  | 10, _ => exact l10
  | 11, _ => exact l11
  | j + 12, hj => omega

set_option maxRecDepth 100000 in
set_option maxHeartbeats 4000000 in
theorem states_region3 {N : Nat} (a0 : Act) (W : World) (l xh ob : Nat) (x : Sy) (Po : Bool → World → Prop) {Q : Exit → Act → World → Prop} {K : Act → World → Prop} (q0 : a0.eval (.tmp 0) = .func (.yield l) #[] #[]) (q4 : a0.eval (.tmp 4) = .pointer (some ⟨xh, 0, none⟩)) (q5 : a0.eval (.tmp 5) = .pointer (some ⟨ob, 0, none⟩)) (q6 : a0.eval (.tmp 6) = x.vt) {av : Option Addr} {nv cv : Nat} (hvt : x.vt = .slice av nv cv) (hz : 54 ≤ a0.tmps.size)
    (ho : W.heap[ob]? = some (.cells (opc x.o).toArray 69 (0, 0))) (h3 : W.cell? ⟨xh, 3, none⟩ = some (.int .i64 x.k.hav)) (h2 : W.cell? ⟨xh, 2, none⟩ = some (.int .i64 x.k.made))
    (hY : YieldAt Fence.wide (N - 1) Tryz.prog l (encS x) W.drew fun e W' => ∃ b, e = .returned (.bool b) ∧ Po b W')
    (hK : ∀ b u, Po b u → K (puts a0 ((List.range 13).map fun j => (11 + j, if j = 12 then .bool b else V3 l xh x j))) u) :
    (Code.region 3 opsS3 true).wpIn Fence.wide N Tryz.prog (Exit.then K Q) a0 W := by
  obtain ⟨⟨c0, c1, c2, c3, c4⟩, -⟩ := cellsF (show W.heap[ob]? = some (.cells #[.int .i64 x.o.kind, .int .i64 x.o.pos, .int .u8 x.o.ch, .int .i64 x.o.cl, .int .i64 x.o.sq] 69 (0, 0)) from ho)
  have c0 : W.drew.cell? ⟨ob, 0, none⟩ = _ := c0
  have c1 : W.drew.cell? ⟨ob, 1, none⟩ = _ := c1
  have c2 : W.drew.cell? ⟨ob, 2, none⟩ = _ := c2
  have c3 : W.drew.cell? ⟨ob, 3, none⟩ = _ := c3
  have c4 : W.drew.cell? ⟨ob, 4, none⟩ = _ := c4
  have h3 : W.drew.cell? ⟨xh, 3, none⟩ = _ := h3
  have h2 : W.drew.cell? ⟨xh, 2, none⟩ = _ := h2
  refine wpIn_region_inv (by kernel_rfl) opsS3_earlier (fun L a' u => J3 a0 W l xh x Po L a' u) ?_ ?_ ?_
  · rintro L L' a u i o h hop hno hall hu
    clear hK
    have hi : i < 13 := by
      have := (Array.getElem?_eq_some_iff.1 hop).1
      rwa [opsS3_size] at this
    have p0 := (h.fe.ev (j := 0) (by decide)).trans q0
    have p4 := (h.fe.ev (j := 4) (by decide)).trans q4
    have p5 := (h.fe.ev (j := 5) (by decide)).trans q5
    have p6 := (h.fe.ev (j := 6) (by decide)).trans q6
    have h12 : ¬ L 12 := fun hL => by
      by_cases e : i = 12
      · exact hno (e ▸ hL)
      · exact hno (h.all (h.back 12 0 (by omega) hL (by kernel_rfl)) (h.back 12 1 (by omega) hL (by kernel_rfl)) (h.back 12 11 (by omega) hL (by kernel_rfl)) i (by omega))
    have hw := h.wb h12
    subst hw
    match i, hi with
    | 0, _ =>
      exact ow_value hop (d := some 11) (p := .move (.tmp 0)) (by kernel_rfl) (fun o e => by
        simp only [execOp, e, p0]
        first | (go_simp; done) | (go_simp; rfl) | rfl) (h.next 0 (by omega) hop hall h12 hu hz)
    | 1, _ =>
      exact ow_value hop (d := some 12) (p := .load 69 (.tmp 5)) (by kernel_rfl) (fun o e => by
        simp only [execOp, e, p5]
        first | (go_simp; done) | (go_simp; rfl) | rfl) (h.next 1 (by omega) hop hall h12 hu hz)
    | 2, _ =>
      exact ow_value hop (d := some 13) (p := .move (.tmp 4)) (by kernel_rfl) (fun o e => by
        simp only [execOp, e, p4]
        first | (go_simp; done) | (go_simp; rfl) | rfl) (h.next 2 (by omega) hop hall h12 hu hz)
    | 3, _ =>
      have d2 : a.eval (.tmp 13) = V3 l xh x 2 := h.e 2 (by omega) (depJ hop hall 2 (by kernel_rfl))
      simp only [V3, List.getD_cons_succ, List.getD_cons_zero] at d2
      exact ow_value hop (d := some 14) (p := .nilCheck (.tmp 13)) (by kernel_rfl) (fun o e => by
        simp only [execOp, e, d2]
        first | (go_simp; done) | (go_simp; rfl) | rfl) (h.next 3 (by omega) hop hall h12 hu hz)
    | 4, _ =>
      have d3 : a.eval (.tmp 14) = V3 l xh x 3 := h.e 3 (by omega) (depJ hop hall 3 (by kernel_rfl))
      simp only [V3, List.getD_cons_succ, List.getD_cons_zero] at d3
      exact ow_value hop (d := some 15) (p := .fieldAddr 131 (.tmp 14) 3) (by kernel_rfl) (fun o e => by
        simp only [execOp, e, d3]
        first | (go_simp; done) | (go_simp; rfl) | rfl) (h.next 4 (by omega) hop hall h12 hu hz)
    | 5, _ =>
      have d4 : a.eval (.tmp 15) = V3 l xh x 4 := h.e 4 (by omega) (depJ hop hall 4 (by kernel_rfl))
      simp only [V3, List.getD_cons_succ, List.getD_cons_zero] at d4
      exact ow_value hop (d := some 16) (p := .load 3 (.tmp 15)) (by kernel_rfl) (fun o e => by
        simp only [execOp, e, d4]
        first | (go_simp; done) | (go_simp; rfl) | rfl) (h.next 5 (by omega) hop hall h12 hu hz)
    | 6, _ =>
      exact ow_value hop (d := some 17) (p := .move (.tmp 4)) (by kernel_rfl) (fun o e => by
        simp only [execOp, e, p4]
        first | (go_simp; done) | (go_simp; rfl) | rfl) (h.next 6 (by omega) hop hall h12 hu hz)
    | 7, _ =>
      have d6 : a.eval (.tmp 17) = V3 l xh x 6 := h.e 6 (by omega) (depJ hop hall 6 (by kernel_rfl))
      simp only [V3, List.getD_cons_succ, List.getD_cons_zero] at d6
      exact ow_value hop (d := some 18) (p := .nilCheck (.tmp 17)) (by kernel_rfl) (fun o e => by
        simp only [execOp, e, d6]
        first | (go_simp; done) | (go_simp; rfl) | rfl) (h.next 7 (by omega) hop hall h12 hu hz)
    | 8, _ =>
      have d7 : a.eval (.tmp 18) = V3 l xh x 7 := h.e 7 (by omega) (depJ hop hall 7 (by kernel_rfl))
      simp only [V3, List.getD_cons_succ, List.getD_cons_zero] at d7
      exact ow_value hop (d := some 19) (p := .fieldAddr 131 (.tmp 18) 2) (by kernel_rfl) (fun o e => by
        simp only [execOp, e, d7]
        first | (go_simp; done) | (go_simp; rfl) | rfl) (h.next 8 (by omega) hop hall h12 hu hz)
    | 9, _ =>
      have d8 : a.eval (.tmp 19) = V3 l xh x 8 := h.e 8 (by omega) (depJ hop hall 8 (by kernel_rfl))
      simp only [V3, List.getD_cons_succ, List.getD_cons_zero] at d8
      exact ow_value hop (d := some 20) (p := .load 3 (.tmp 19)) (by kernel_rfl) (fun o e => by
        simp only [execOp, e, d8]
        first | (go_simp; done) | (go_simp; rfl) | rfl) (h.next 9 (by omega) hop hall h12 hu hz)
    | 10, _ =>
      exact ow_value hop (d := some 21) (p := .move (.tmp 6)) (by kernel_rfl) (fun o e => by
        simp only [execOp, e, p6]
        first | (go_simp; done) | (go_simp; rfl) | rfl) (h.next 10 (by omega) hop hall h12 hu hz)
    | 11, _ =>
      have d5 : a.eval (.tmp 16) = V3 l xh x 5 := h.e 5 (by omega) (depJ hop hall 5 (by kernel_rfl))
      simp only [V3, List.getD_cons_succ, List.getD_cons_zero] at d5
      have d9 : a.eval (.tmp 20) = V3 l xh x 9 := h.e 9 (by omega) (depJ hop hall 9 (by kernel_rfl))
      simp only [V3, List.getD_cons_succ, List.getD_cons_zero] at d9
      have d10 : a.eval (.tmp 21) = V3 l xh x 10 := h.e 10 (by omega) (depJ hop hall 10 (by kernel_rfl))
      simp only [V3, List.getD_cons_succ, List.getD_cons_zero] at d10
      rw [hvt] at d10
      exact ow_value hop (d := some 22) (p := .build 72 #[(0, .tmp 16), (1, .tmp 20), (2, .tmp 21)]) (by kernel_rfl) (fun o e => by
        simp only [execOp, e, List.map_toArray, List.map_cons, List.map_nil, d5, d9, d10]
        simp only [V3, hvt, List.getD_cons_succ, List.getD_cons_zero]
        first | (go_simp; done) | (go_simp; rfl) | rfl) (h.next 11 (by omega) hop hall h12 hu hz)
    | 12, _ =>
      have l0 : L 0 := depJ hop hall 0 (by kernel_rfl)
      have l1 : L 1 := depJ hop hall 1 (by kernel_rfl)
      have l11 : L 11 := depJ hop hall 11 (by kernel_rfl)
      have A := h.all l0 l1 l11
      have t0 : a.eval (.tmp 11) = .func (.yield l) #[] #[] := h.e 0 (by omega) l0
      have t1 : a.eval (.tmp 12) = x.o.val := h.e 1 (by omega) l1
      have t11 : a.eval (.tmp 22) = .agg #[.int .i64 x.k.hav, .int .i64 x.k.made, x.vt] := h.e 11 (by omega) l11
      refine ow_yield hop (d := some 23) (.tmp 11) #[.tmp 12, .tmp 22] #[69, 72] (by kernel_rfl) t0 (vs := encS x) (by simp [t1, t11, encS]) hY ?_
      rintro e w' ⟨b, rfl, hp⟩
      refine ⟨_, rfl, h.fe.put (List.mem_map.2 ⟨12, List.mem_range.2 (by omega), rfl⟩) _, fun j hj hl => ?_, fun j o' ho' hl e he hb => ?_, fun hn => absurd ((hu 12).2 (.inl rfl)) hn, fun _ => ⟨b, ev_eq _ _ (by have := h.fe.sz; omega), hp⟩⟩
      · rw [ev_ne _ _ (by omega)]
        exact h.e j hj (A j hj)
      · rcases (hu j).1 hl with e1 | e1
        · subst e1
          rw [hop] at ho'
          obtain rfl := Option.some.inj ho'
          exact (hu _).2 (.inr (hall e he hb))
        · exact (hu _).2 (.inr (h.cl j o' ho' e1 e he hb))
    | i + 13, hi => omega
  · rintro L a u h hall
    rw [opsS3_size] at hall
    obtain ⟨b, hb, hp⟩ := h.wp (hall 12 (by omega))
    have hput := Fe.puts ((List.range 13).map fun j => (11 + j, if j = 12 then .bool b else V3 l xh x j)) a0 a (by rw [List.map_map]; exact h.fe) (by
      intro p hp
      obtain ⟨j, hj, rfl⟩ := List.mem_map.1 hp
      have hj := List.mem_range.1 hj
      refine ⟨by show 11 + j < _; omega, ?_⟩
      by_cases e : j = 12
      · subst e
        simpa using hb
      · simp only [if_neg e]
        exact h.e j (by omega) (hall j hj))
    show K a u
    rw [hput]
    exact hK b u hp
  · intro L hn
    exact ⟨Fe.refl _ _, fun j _ hl => absurd hl (hn j), fun j o _ hl => absurd hl (hn j), fun _ => rfl, fun hl => absurd hl (hn 12)⟩

end Go.Proofs.YtfhghijefjhehaaGreatDoor

/-! Od -/
namespace Go.Proofs.YtfhghijefjhehaaGreatDoor
open Go.RowKit Go.Shelf
set_option linter.unusedVariables false
attribute [local go_sem] Oper.semAt_some

theorem least {p : Nat → Prop} (h : ∃ k, p k) : ∃ k, p k ∧ ∀ j, p j → k ≤ j := by
  obtain ⟨k, hk⟩ := h
  induction k using Nat.strongRecOn with
  | _ k ih =>
    by_cases h : ∃ j, j < k ∧ p j
    · obtain ⟨j, h1, h2⟩ := h
      exact ih j h1 h2
    · exact ⟨k, hk, fun j hj => by
        by_cases hlt : j < k
        · exact absurd ⟨j, hlt, hj⟩ h
        · omega⟩
open Classical in
/-- How many rounds are left at most. -/
noncomputable def rk (I : Nat → World → Prop) (W : World) : Nat := if h : ∃ k, I k W then Classical.choose (least h) else 0
theorem rk_spec {I : Nat → World → Prop} {W : World} (h : ∃ k, I k W) : I (rk I W) W ∧ ∀ j, I j W → rk I W ≤ j := by
  unfold rk
  rw [dif_pos h]
  exact Classical.choose_spec (least h)

theorem LB.fri {l D B0 : Nat} {r : Loop} {W W' : World} (h : LB l D r W) (hF : FrI B0 W W') : LB l D r W' :=
  ⟨Fr.keeps hF h.1 (fun hs => by obtain ⟨-, cs, t, h2, -⟩ := hs; rw [h.1] at h2; cases h2), Fr.keeps hF h.2 (fun hs => by obtain ⟨-, cs, t, h2, -⟩ := hs; rw [h.2] at h2; cases h2)⟩

section
variable {done : List OpE} {id : Int} {k : Wk}
theorem not_due (h : k.due = false) : ¬ (k.still.head?.map (·.tag)) = some (k.hav : Int) := by
  intro e
  unfold Wk.due at h
  rw [e] at h
  simp at h
theorem way_due2 (h : k.due = true) : wayW apE done id k = (k.mk1 apE).view :: wayW apE done id (k.mk1 apE) := by
  obtain ⟨x, l, hs, ht⟩ := due_cons h
  exact way_due hs ht
theorem way_take2 {o : OpE} (h : k.due = false) (ho : done[k.hav]? = some o) : wayW apE done id k = (k.take apE o (o.cl == id)).view :: wayW apE done id (k.take apE o (o.cl == id)) := by
  have hl : k.hav < done.length := (List.getElem?_eq_some_iff.1 ho).1
  have e1 : (k.take apE o (o.cl == id)).still = k.still ∧ (k.take apE o (o.cl == id)).hav = k.hav + 1 := by unfold Wk.take; split <;> exact ⟨rfl, rfl⟩
  have e : k.still.length + (done.length - k.hav) = ((k.take apE o (o.cl == id)).still.length + (done.length - (k.take apE o (o.cl == id)).hav)) + 1 := by rw [e1.1, e1.2]; omega
  unfold wayW
  rw [e, wayF, if_neg (not_due h), ho]
theorem way_end2 (h : k.due = false) (ho : done.length ≤ k.hav) : wayW apE done id k = [] := by
  unfold wayW
  cases hm : k.still.length + (done.length - k.hav) with
  | zero => rfl
  | succ n => rw [wayF, if_neg (not_due h), List.getElem?_eq_none ho]
end

/-- The walker is on client c's path. -/
def OnW (log : List Ed) (E : Nat → List Ed) (c : Nat) (k : Wk) : Prop := k.hav ≤ log.length ∧ k.all apE = ((stW apE log E k.hav).1 c).all apE
section
variable {log : List Ed} {E : Nat → List Ed} {c C : Nat} {k : Wk}
theorem OnW.mk1 (h : OnW log E c k) (hd' : k.due = true) : OnW log E c (k.mk1 apE) := by
  obtain ⟨x, l, hs, -⟩ := due_cons hd'
  obtain ⟨-, m2, -⟩ := mk1_still (ap := apE) hs
  unfold OnW
  rw [m2, all_due hd']
  exact h
theorem OnW.take (hP : PF C log E) (h : OnW log E c k) (hd' : k.due = false) (hl : k.hav < log.length) : ((opK apE log E k.hav).cl = (c : Int) → k.forms ≠ []) ∧ OnW log E c (k.take apE (opK apE log E k.hav) ((opK apE log E k.hav).cl == (c : Int))) := by
  have e1 : k = ((stW apE log E k.hav).1 c).all apE := (all_idle hd').symm.trans h.2
  obtain ⟨o1, l, o2⟩ := hP.op k.hav hl
  have hcl := hP.cl k.hav hl
  refine ⟨fun hc => ?_, ?_⟩
  · have e2 : log[k.hav].o.cl.toNat = c := by omega
    rw [e2, ← e1] at o2
    rw [o2]
    simp
  · have e3 : ((opK apE log E k.hav).cl == (c : Int)) = (c == log[k.hav].o.cl.toNat) := by
      rw [o1, Bool.eq_iff_iff]
      simp
      omega
    have e4 : k.take apE (opK apE log E k.hav) ((opK apE log E k.hav).cl == (c : Int)) = (stW apE log E (k.hav + 1)).1 c := by
      rw [stW_succ hl, e3]
      simp only [← e1]
    have e5 : (k.take apE (opK apE log E k.hav) ((opK apE log E k.hav).cl == (c : Int))).hav = k.hav + 1 := by unfold Wk.take; split <;> rfl
    refine ⟨by rw [e5]; omega, ?_⟩
    rw [e5, e4]
end

/-- Between two rounds. -/
def SI (l D : Nat) (r : Loop) (Cp : List PV → World → Prop) (B0 xh ob bp xt : Nat) (γ βd : Option Nat) (vd : Value) (log : List Ed) (E : Nat → List Ed) (c : Nat) (T : List Vw) (m : Nat) (vt : Value) (W : World) : Prop :=
  ∃ x : Sy, vt = x.vt ∧ It B0 xh ob bp xt γ βd vd (stW apE log E log.length).2 (c : Int) x x.k.text W ∧ Cp x.pre W ∧ LB l D r W ∧ OnW log E c x.k ∧ x.pre.map PV.view ++ (x.k.view :: wayW apE (stW apE log E log.length).2 (c : Int) x.k) = T ∧ m = x.k.still.length + (log.length - x.k.hav)

section
variable {W1 : World} {xt : Nat} {C : Int} {vL vE : Value} {S : Nat → Ls} {L : Nat → Option Nat} {log : List Ed} {E : Nat → List Ed} {Cn c : Nat} {ds0 : List Dd} {bp : Nat} {βd : Option Nat} {vd : Value}
/-- The iterator begins. -/
theorem It.begin {w2 w3 : World} (hT : TL W1 xt C vL vE S L) (hc : c < 65) (hE : ds0.map (·.e) = E c) (hP : PF Cn log E) (hbp : W1.heap[bp]? = some (.cells #[.pointer (some ⟨xt, 0, none⟩), vd] 65 (0, 0))) (hdn : FO W1 βd vd (stW apE log E log.length).2) (hTb : Table W1)
    (h2 : HD w2 W1.heap.size none (L (130 + c)) (c : Int) ds0 0 0 [] 0) (b2 : Below W1.heap.size W1 w2) (h3 : w3 = w2.alloc (.cells #[.int .i64 0, .int .i64 0, .int .u8 0, .int .i64 0, .int .i64 0] 69)) :
    It W1.heap.size W1.heap.size w2.heap.size bp xt (L (130 + c)) βd vd (stW apE log E log.length).2 (c : Int) ⟨⟨0, 0, 0, 0, 0⟩, .slice none 0 0, wk0 ds0, none, ds0, []⟩ [] w3 ∧ OnW log E c (wk0 ds0) ∧ FrI W1.heap.size W1 w3 := by
  have b3 : Below w2.heap.size w2 w3 := by rw [h3]; exact (Below.refl _ _).alloc (Nat.le_refl _) _
  have b13 : Below W1.heap.size W1 w3 := b2.trans (b3.mono b2.size)
  have e0 : wk0 ds0 = (stW apE log E 0).1 c := by simp only [wk0, stW]; rw [hE]
  refine ⟨⟨(HK.new h2).below b3, by rw [h3]; exact heap_alloc_new w2 _, ⟨none, rfl, rfl⟩, (b13.block _ (block_lt hbp)).trans hbp, hdn.fr (Fr.of_below (S := fun _ => False) b13) (fun _ _ h => h), hTb.below b13 hTb.1, Nat.le_refl _, b2.size, fun g hg => (by cases hg), fun g hg => hT.old (by omega) hg, fun g hg => hdn.lt g hg, block_lt hbp, hTb.1, b13.size, ?_, by simp [wk0]⟩, ⟨Nat.zero_le _, ?_⟩, FrI.of_below b13⟩
  · show GW (wk0 ds0)
    rw [e0]
    exact hP.gw 0 c
  · show (wk0 ds0).all apE = ((stW apE log E 0).1 c).all apE
    rw [e0]
end

end Go.Proofs.YtfhghijefjhehaaGreatDoor
