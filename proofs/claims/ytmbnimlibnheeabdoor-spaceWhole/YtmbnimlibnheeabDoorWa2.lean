/-
  SpaceWhole: a side in memory, with its text and what is gone.
-/
import Derived.Test.YtmbnimlibnheeabDoorMT
import Derived.Test.YtmbnimlibnheeabDoorMW
namespace Go.Proofs.YtmbnimlibnheeabDoor
open Go.RowKit Go.Lib
set_option linter.unusedVariables false

def SAV (B : Nat) (T : Nat → Prop) (w : World) (x : Nat) (sd : Sd) (base : Int) (vt : Value) (βt : Option Nat) (G : List El) : Prop :=
  ∃ z aw nw cw vg βg, SC T w x z sd.d ⟨sd.f, sd.q, sd.made⟩ sd.made sd.took base sd.way vt aw nw cw vg βt βg G ∧ (∀ pc ∈ sd.way, VO pc.o) ∧ G.length ≤ sd.made ∧ ∀ k, T k → B ≤ k ∧ k < w.heap.size

/-- A row of elements that is neither the text nor what is gone need not be told. -/
theorem SC.dropO {T : Nat → Prop} {w : World} {x z : Nat} {d : List El} {p : Sp} {made took base : Int} {W : List Pc} {vt : Value} {aw : Option Addr} {nw cw : Nat} {vg : Value} {βt βg : Option Nat} {G : List El} (h : SC T w x z d p made took base W vt aw nw cw vg βt βg G) (βo : Option Nat) (hE : ∀ g, βo = some g → Tg w g 41) (h1 : ∀ g, βo = some g → βt ≠ some g) (h2 : ∀ g, βo = some g → βg ≠ some g) : SC (fun k => T k ∧ βo ≠ some k) w x z d p made took base W vt aw nw cw vg βt βg G := by
  have ty : ∀ {k : Nat} {t : TypeId}, Tg w k t → t ≠ 41 → βo ≠ some k := fun hk ht he => (hE _ he).ne hk (Ne.symm ht) rfl
  refine ⟨h.box, ⟨h.tx, ty h.tg (by decide)⟩, h.te, fun g hg => ⟨h.tt g hg, fun he => h1 g he hg⟩, ?_, ?_, h.wn, h.gn, fun g hg => ⟨h.gt g hg, fun he => h2 g he hg⟩, h.ne⟩
  · obtain ⟨vm, vo, βm, βo', k, ok, b1, b2, b3⟩ := h.sp
    exact ⟨vm, vo, βm, βo', k, ok, ⟨b1, ty ⟨_, k.box⟩ (by decide)⟩, fun g hg => ⟨b2 g hg, ty (k.rm.tg hg) (by decide)⟩, fun g hg => ⟨b3 g hg, ty (k.ro.tg hg) (by decide)⟩⟩
  · obtain ⟨k1, k2, k3, k4⟩ := h.wy
    refine ⟨k1, k2, k3, k4.imp id ?_⟩
    rintro ⟨g, k, cur, e, ht, hg, r⟩
    exact ⟨g, k, cur, e, ⟨ht, ty ⟨_, hg⟩ (by decide)⟩, hg, r⟩

/-- Who made the operation, and what it has taken away. -/
def KG (d : List El) (base : Int) (m : Nat) (G0 : List El) (o : OpE) (G : List El) : Prop :=
  (o.cl, o.sq) = keyO base m ∧ ((o.kind = 0 ∧ G = G0) ∨ (o.kind = 1 ∧ G = G0) ∨ (o.kind = 2 ∧ ∃ x, d[o.pos.toNat]? = some x ∧ G = G0 ++ [x]))

/-- One more is under way. -/
theorem SC.send2 {T : Nat → Prop} {w u : World} {x z : Nat} {d : List El} {p : Sp} {made took base : Int} {W : List Pc} {vt : Value} {aw : Option Addr} {nw cw : Nat} {vg : Value} {βt βg : Option Nat} {G : List El} (h : SC T w x z d p made took base W vt aw nw cw vg βt βg G) (hu : Below w.heap.size w u) {b : Nat} {pc : Pc} (hb : u.heap[b]? = some (.cells (pcl pc).toArray 39 (0, 0))) (hn : nw ≤ 10000) :
    ∃ a c w', (∀ ty, (Builtin.append_ #[28, 28] ty #[.slice aw nw cw, .slice (some ⟨b, 0, none⟩) 1 1]).run Tryd.prog u = .ok (.slice a (nw + 1) c) w') ∧ (x < w'.heap.size ∧ w'.cell? ⟨x, 4, none⟩ = some (.slice aw nw cw) ∧ w'.frozen? ⟨x, 4, none⟩ = false) ∧
      SC (TB T w.heap.size w'.heap.size) (w'.setCell ⟨x, 4, none⟩ (.slice a (nw + 1) c)) x z d p made took base (W ++ [pc]) vt a (nw + 1) c vg βt βg G ∧ u.heap.size ≤ w'.heap.size ∧ Fr (fun j => T j ∧ ¬ Tg w j 41) w (w'.setCell ⟨x, 4, none⟩ (.slice a (nw + 1) c)) := by
  have KU := h.below hu
  obtain ⟨a, c, w', hr, ha, hW, hF⟩ := Way.push KU.wy KU.wn hn hb
  have hsz := hF.size
  have hus := hu.size
  have nt : ∀ k t, Tg u k t → t ≠ 39 → ¬ (T k ∧ Tg u k 39) := fun k t hk ht hh => hk.ne hh.2 ht rfl
  have K1 : SC T u x z d p made took base W vt aw nw cw vg βt βg G := KU
  have c1 := hF.keeps KU.box (nt _ _ KU.tg (by decide))
  have hW' : Way (TB T w.heap.size w'.heap.size) w' a (nw + 1) c (W ++ [pc]) := hW.cut.mono (fun k hk => hk.1.imp (fun h => h) (fun h => ⟨by omega, hk.2⟩))
  have tg' : Tg w' x 30 := ⟨_, c1⟩
  have hS : Fr (· = x) w' (w'.setCell ⟨x, 4, none⟩ (.slice a (nw + 1) c)) := Fr.setCell _ _ _ rfl
  have t1 := KU.te.fr hF (fun k hk => nt _ _ (KU.te.tg hk) (by decide))
  have g1 := KU.gn.fr hF (fun k hk => nt _ _ (KU.gn.tg hk) (by decide))
  have s1 := KU.sp.fr hF (fun k hk hh => hk.not hh.2 (by decide) (by decide) (by decide) rfl)
  refine ⟨a, c, w', hr, ⟨block_lt c1, by rw [cell_row c1]; rfl, frozen_row c1 4⟩, ⟨?_, .inl h.tx, t1.fr hS (fun k hk => (t1.tg hk).ne tg' (by decide)), fun k hk => .inl (h.tt k hk), (s1.fr hS (fun k hk => hk.not tg' (by decide) (by decide) (by decide))).mono (fun k hk => .inl hk), hW'.fr hS (fun k _ hk => hk.ne tg' (by decide)), fun he => absurd he ha, g1.fr hS (fun k hk => (g1.tg hk).ne tg' (by decide)), fun k hk => .inl (h.gt k hk), h.ne⟩, hsz, ((Fr.of_below hu).next hF (fun k _ hk => ⟨hk.1, fun he => (he.fr (Fr.of_below (S := fun _ => False) hu) (fun h => h)).ne hk.2 (by decide) rfl⟩)).next hS (fun k _ hk => by rw [hk]; exact ⟨h.tx, fun he => he.ne h.tg (by decide) rfl⟩)⟩
  have := set_row c1 4 (.slice a (nw + 1) c)
  simpa using this


/-- What makes has made, ahead of Apply. -/
def MKG (T : Nat → Prop) (w wx : World) (x z : Nat) (s : Sd) (base : Int) (vt : Value) (aw : Option Addr) (nw cw : Nat) (βt : Option Nat) (bo m n : Nat) (G0 : List El) : Prop :=
  ∃ o T' vg βg G, FitO n o ∧ VO o ∧ SC T' wx x z s.d ⟨s.f, s.q, s.made⟩ s.made s.took base s.way vt aw nw cw vg βt βg G ∧ G.length ≤ m + 1 ∧ (∀ k, T k → T' k) ∧ (∀ k, T' k → (T k ∨ w.heap.size ≤ k) ∧ k < wx.heap.size ∧ k ≠ bo) ∧ wx.heap[bo]? = some (.cells (opc o).toArray 37 (0, 0)) ∧ Fr T w wx ∧ KG s.d base m G0 o G

/-- Where only the operation's own block has changed. -/
theorem MKG.of {T : Nat → Prop} {B : Nat} {w wa wx : World} {x z : Nat} {s : Sd} {base : Int} {vt : Value} {aw : Option Addr} {nw cw : Nat} {vg : Value} {βt βg : Option Nat} {G : List El} {bo m n : Nat} {o : OpE} {G0 : List El} (hKG : KG s.d base m G0 o G) (hf : FitO n o) (hv : VO o) (K : SC T wa x z s.d ⟨s.f, s.q, s.made⟩ s.made s.took base s.way vt aw nw cw vg βt βg G) (hG : G.length ≤ m) (ho : ∀ k, T k → B ≤ k ∧ k < w.heap.size) (hbo : w.heap.size < bo) (bw : Below w.heap.size w wa) (hF : Fr (· = bo) wa wx) (hX : wx.heap[bo]? = some (.cells (opc o).toArray 37 (0, 0))) : MKG T w wx x z s base vt aw nw cw βt bo m n G0 := by
  have hz := hF.size
  have hw := bw.size
  refine ⟨o, T, vg, βg, G, hf, hv, K.fr hF (fun j hj he => by have := (ho j hj).2; omega), by omega, fun k hk => hk, fun k hk => ⟨.inl hk, by have := (ho k hk).2; omega, by have := (ho k hk).2; omega⟩, hX, (Fr.of_below bw).next hF (fun j hj he => by omega), hKG⟩


end Go.Proofs.YtmbnimlibnheeabDoor
