/-
  A space in memory; New, Last, add, Keep.
-/
import Derived.Test.YtmbnimlibnheeabDoorGa
import Derived.Test.YtmbnimlibnheeabDoorVa
import Derived.Test.YtmbnimlibnheeabDoorPm
namespace Go.Proofs.YtmbnimlibnheeabDoor
open Go.RowKit
set_option linter.unusedVariables false

/-- A space, without memory. -/
structure Sp where
  f : Bool
  q : List (Int × OpE)
  last : Int
def Sp.ms (p : Sp) : List Int := p.q.map (·.1)
def Sp.os (p : Sp) : List OpE := p.q.map (·.2)
structure Sp.ok (p : Sp) : Prop where
  n : (p.q.length : Int) ≤ p.last
  m : p.last ≤ 4096
  ch : OkO p.os

def keepE (p : Sp) (m : Int) (o : OpE) : Int := if validP o ≠ 0 then validP o else if m ≤ p.last ∨ 4096 < m then 100 else 0
def keepS (p : Sp) (m : Int) (o : OpE) : Sp := if keepE p m o = 0 then ⟨p.f, p.q ++ [(m, o)], m⟩ else p
def dropN (p : Sp) (m : Int) : Nat := (p.q.takeWhile (fun x => decide (x.1 ≤ m))).length
def dropS (p : Sp) (m : Int) : Sp := { p with q := dropQ p.q m }
def crossO (p : Sp) (o : OpE) : OpE := if validP o = 0 then (thrQ o p.q p.f).1 else zop
def crossS (p : Sp) (o : OpE) : Sp := if validP o = 0 then { p with q := (thrQ o p.q p.f).2 } else p

theorem keepE_zero {p : Sp} {m : Int} {o : OpE} (h : keepE p m o = 0) : validP o = 0 ∧ p.last < m ∧ m ≤ 4096 := by
  unfold keepE at h
  split at h
  · omega
  · split at h
    · omega
    · omega
theorem keepS_ok {p : Sp} (h : p.ok) (m : Int) (o : OpE) (ho : OkOp o) : (keepS p m o).ok := by
  unfold keepS
  split
  · next hk =>
    obtain ⟨h1, h2, h3⟩ := keepE_zero hk
    have := h.n
    refine ⟨by simp; omega, h3, fun x hx => ?_⟩
    simp [Sp.os] at hx
    rcases hx with ⟨m', hx⟩ | rfl
    · exact h.ch x (by simp [Sp.os]; exact ⟨m', hx⟩)
    · exact ho
  · exact h
theorem dropS_ok {p : Sp} (h : p.ok) (m : Int) : (dropS p m).ok := by
  have h1 := (List.dropWhile_sublist (fun x : Int × OpE => decide (x.1 ≤ m)) (l := p.q)).length_le
  refine ⟨?_, h.m, fun o ho => ?_⟩
  · have := h.n
    simp only [dropS, dropQ]
    omega
  · obtain ⟨x, hx, rfl⟩ := List.mem_map.1 ho
    exact h.ch _ (List.mem_map_of_mem (dropQ_mem hx))
theorem shiftL_ok (l : List (Int × OpE)) : ∀ (o : OpE) (f : Bool), OkO (l.map (·.2)) → OkO ((thrQ o l f).2.map (·.2)) := by
  induction l with
  | nil => intro o f h; exact h
  | cons x l ih =>
    intro o f h y hy
    simp only [thrQ, List.map_cons, List.mem_cons] at hy
    rcases hy with rfl | hy
    · exact shiftP_ok (h x.2 (by simp))
    · exact ih _ _ (fun z hz => h z (by simp only [List.map_cons, List.mem_cons]; exact .inr hz)) y hy
theorem crossS_ok {p : Sp} (h : p.ok) (o : OpE) : (crossS p o).ok := by
  unfold crossS
  split
  · exact ⟨by simp only [thrQ_len]; exact h.n, h.m, shiftL_ok _ _ _ h.ch⟩
  · exact h
theorem Sp.ms_len (p : Sp) : p.ms.length = p.q.length := by simp [Sp.ms]
theorem Sp.os_len (p : Sp) : p.os.length = p.q.length := by simp [Sp.os]

def ei (x : Int) : List Value := [.int .i64 x]
theorem sz_ei : Sz ei 1 := fun x => ⟨rfl, fun v hv => by simp [ei] at hv; subst hv; rfl⟩
theorem sz_opc : Sz opc 5 := fun x => ⟨rfl, fun v hv => cO_one' [x] v (by rw [cO_one]; exact hv)⟩

theorem Tryd.infoI : (Tryd.prog.info? 3).map (fun i => (i.zero, i.size, i.bytes)) = some (some (.int .i64 0), 1, 8) := by kernel_rfl

/-- The space at block x. -/
structure SK (w : World) (x : Nat) (f : Bool) (ms : List Int) (os : List OpE) (last : Int) (vm vo : Value) (βm βo : Option Nat) : Prop where
  box : w.heap[x]? = some (.cells #[vm, vo, .bool f, .int .i64 last] 72 (0, 0))
  rm : SF ei 1 w 3 βm vm ms
  ro : SF opc 5 w 37 βo vo os

/-- ... its blocks are among S. -/
def RAt (w : World) (x : Nat) (f : Bool) (ms : List Int) (os : List OpE) (last : Int) (S : Nat → Prop) : Prop :=
  ∃ vm vo βm βo, SK w x f ms os last vm vo βm βo ∧ S x ∧ (∀ g, βm = some g → S g) ∧ (∀ g, βo = some g → S g) ∧ ∀ k, S k → k < w.heap.size
def NowR (w w' : World) (x : Nat) (f : Bool) (ms : List Int) (os : List OpE) (last : Int) (S : Nat → Prop) : Prop :=
  ∃ S', RAt w' x f ms os last S' ∧ (∀ k, S' k → S k ∨ w.heap.size ≤ k) ∧ Fr S w w'
def SpAt (w : World) (x : Nat) (p : Sp) (S : Nat → Prop) : Prop := RAt w x p.f p.ms p.os p.last S ∧ p.ok
def Now (w w' : World) (x : Nat) (p : Sp) (S : Nat → Prop) : Prop := ∃ S', SpAt w' x p S' ∧ (∀ k, S' k → S k ∨ w.heap.size ≤ k) ∧ Fr S w w'

section
variable {w w' u : World} {x : Nat} {f : Bool} {ms : List Int} {os : List OpE} {last : Int} {vm vo : Value} {βm βo : Option Nat} {S T : Nat → Prop} {p : Sp}
theorem SK.fr (h : SK w x f ms os last vm vo βm βo) (hF : Fr S w w') (hx : ¬ S x) (h1 : ∀ g, βm = some g → ¬ S g) (h2 : ∀ g, βo = some g → ¬ S g) : SK w' x f ms os last vm vo βm βo :=
  ⟨hF.keeps h.box hx, h.rm.fr hF h1, h.ro.fr hF h2⟩
theorem SK.below (h : SK w x f ms os last vm vo βm βo) (hb : Below w.heap.size w w') : SK w' x f ms os last vm vo βm βo :=
  h.fr (S := fun _ => False) (Fr.of_below hb) (fun h => h) (fun _ _ h => h) (fun _ _ h => h)
theorem SK.m_ne (h : SK w x f ms os last vm vo βm βo) : βm ≠ some x := by
  rintro rfl
  obtain ⟨cur, h1⟩ := h.rm.blk
  have := h.box
  rw [h1] at this
  simp at this
theorem SK.o_ne (h : SK w x f ms os last vm vo βm βo) : βo ≠ some x := by
  rintro rfl
  obtain ⟨cur, h1⟩ := h.ro.blk
  have := h.box
  rw [h1] at this
  simp at this
theorem SK.mo_ne (h : SK w x f ms os last vm vo βm βo) {g : Nat} (hg : βm = some g) : βo ≠ some g := by
  rintro rfl
  subst hg
  obtain ⟨c1, h1⟩ := h.ro.blk
  obtain ⟨c2, h2⟩ := h.rm.blk
  rw [h1] at h2
  simp at h2
theorem RAt.fr (h : RAt w x f ms os last S) (hF : Fr T w w') (hS : ∀ k, S k → ¬ T k) : RAt w' x f ms os last S := by
  obtain ⟨vm, vo, βm, βo, h, h1, h2, h3, h4⟩ := h
  exact ⟨vm, vo, βm, βo, h.fr hF (hS x h1) (fun g hg => hS g (h2 g hg)) (fun g hg => hS g (h3 g hg)), h1, h2, h3, fun k hk => Nat.lt_of_lt_of_le (h4 k hk) hF.size⟩
theorem RAt.below (h : RAt w x f ms os last S) (hb : Below w.heap.size w w') : RAt w' x f ms os last S :=
  h.fr (T := fun _ => False) (Fr.of_below hb) (fun _ _ h => h)
theorem SpAt.fr (h : SpAt w x p S) (hF : Fr T w w') (hS : ∀ k, S k → ¬ T k) : SpAt w' x p S := ⟨h.1.fr hF hS, h.2⟩
theorem SpAt.below (h : SpAt w x p S) (hb : Below w.heap.size w w') : SpAt w' x p S := ⟨h.1.below hb, h.2⟩
theorem RAt.old (h : RAt w x f ms os last S) : ∀ k, S k → k < w.heap.size := by
  obtain ⟨vm, vo, βm, βo, h, h1, h2, h3, h4⟩ := h
  exact h4
theorem NowR.trans {f' : Bool} {ms' : List Int} {os' : List OpE} {last' : Int} (h : NowR w u x f ms os last S) (k : ∀ S', RAt u x f ms os last S' → NowR u w' x f' ms' os' last' S') : NowR w w' x f' ms' os' last' S := by
  obtain ⟨S1, h1, h2, h3⟩ := h
  obtain ⟨S2, k1, k2, k3⟩ := k S1 h1
  have hz := h3.size
  refine ⟨S2, k1, fun j hj => ?_, h3.next k3 (fun i hi hs => ?_)⟩
  · rcases k2 j hj with hs | hs
    · exact h2 j hs
    · exact .inr (by omega)
  · rcases h2 i hs with h | h
    · exact h
    · omega
theorem NowR.of_below (h : RAt w x f ms os last S) (hb : Below w.heap.size w w') : NowR w w' x f ms os last S := ⟨S, h.below hb, fun k hk => .inl hk, Fr.of_below hb⟩
theorem Now.of_below (h : SpAt w x p S) (hb : Below w.heap.size w w') : Now w w' x p S := ⟨S, h.below hb, fun k hk => .inl hk, Fr.of_below hb⟩
theorem Now.after (hb : Below w.heap.size w u) (h : Now u w' x p S) (hS : ∀ k, S k → k < w.heap.size) : Now w w' x p S := by
  obtain ⟨S', h1, h2, h3⟩ := h
  have hz := hb.size
  exact ⟨S', h1, fun k hk => (h2 k hk).imp id (fun h => by omega), (Fr.of_below hb).trans h3⟩
theorem Now.later (h : Now w u x p S) (hb : Below u.heap.size u w') : Now w w' x p S := by
  obtain ⟨S', h1, h2, h3⟩ := h
  exact ⟨S', h1.below hb, h2, h3.trans (Fr.of_below hb)⟩

theorem NowF.out {α : Type} {f : α → List Value} {k : Nat} {w w' : World} {e : TypeId} {β : Option Nat} {v' : Value} {xs : List α} (h : NowF f k w w' e β v' xs) :
    ∃ g', SF f k w' e (some g') v' xs ∧ (β = some g' ∨ g' = w.heap.size) ∧ Fr (fun j => β = some j) w w' := by
  obtain ⟨g', h1, h2 | h2⟩ := h
  · exact ⟨g', h1, .inl h2.1, h2.2.mono (fun k _ hk => by rw [hk]; exact h2.1)⟩
  · exact ⟨g', h1, .inr h2.1, h2.2.mono (fun k _ hk => hk.elim)⟩

/-- A new row of marks. -/
theorem now_marks {v' : Value} {ms' : List Int} {g' : Nat} (h : SK w x f ms os last vm vo βm βo) (hSx : S x) (hSm : ∀ g, βm = some g → S g) (hSo : ∀ g, βo = some g → S g) (hS : ∀ k, S k → k < w.heap.size)
    (h1 : SF ei 1 w' 3 (some g') v' ms') (h2 : βm = some g' ∨ w.heap.size ≤ g') (h3 : Fr (fun j => βm = some j) w w') : NowR w (w'.setCell ⟨x, 0, none⟩ v') x f ms' os last S := by
  have hxu : x < w.heap.size := block_lt h.box
  have hxg : g' ≠ x := by
    rintro rfl
    rcases h2 with h2 | h2
    · exact h.m_ne h2
    · omega
  have hx := h3.keeps h.box (fun hb => h.m_ne hb)
  have hF : Fr (· = x) w' (w'.setCell ⟨x, 0, none⟩ v') := Fr.setCell _ _ _ rfl
  have hsz := h3.size
  have hsz3 := hF.size
  refine ⟨fun k => k = x ∨ k = g' ∨ βo = some k, ⟨v', vo, some g', βo, ⟨?_, h1.fr hF (fun g hg => by injection hg with hg; omega), (h.ro.fr h3 (fun g hg hm => h.mo_ne hm hg)).fr hF (fun g hg he => h.o_ne (he ▸ hg))⟩, .inl rfl, fun g hg => by injection hg with hg; exact .inr (.inl hg.symm), fun g hg => .inr (.inr hg), ?_⟩, ?_, ?_⟩
  · have := set_row hx 0 v'
    simpa using this
  · rintro k (rfl | rfl | hk)
    · omega
    · have := h1.lt _ rfl; omega
    · have := hS k (hSo k hk); omega
  · rintro k (rfl | rfl | hk)
    · exact .inl hSx
    · rcases h2 with h2 | h2
      · exact .inl (hSm _ h2)
      · exact .inr (by omega)
    · exact .inl (hSo k hk)
  · exact (h3.mono (S' := S) (fun k _ hk => hSm k hk)).next hF (fun k _ hk => by rw [hk]; exact hSx)

/-- A new row of operations. -/
theorem now_ops {v' : Value} {os' : List OpE} {g' : Nat} (h : SK w x f ms os last vm vo βm βo) (hSx : S x) (hSm : ∀ g, βm = some g → S g) (hSo : ∀ g, βo = some g → S g) (hS : ∀ k, S k → k < w.heap.size)
    (h1 : SF opc 5 w' 37 (some g') v' os') (h2 : βo = some g' ∨ w.heap.size ≤ g') (h3 : Fr (fun j => βo = some j) w w') : NowR w (w'.setCell ⟨x, 1, none⟩ v') x f ms os' last S := by
  have hxu : x < w.heap.size := block_lt h.box
  have hxg : g' ≠ x := by
    rintro rfl
    rcases h2 with h2 | h2
    · exact h.o_ne h2
    · omega
  have hx := h3.keeps h.box (fun hb => h.o_ne hb)
  have hF : Fr (· = x) w' (w'.setCell ⟨x, 1, none⟩ v') := Fr.setCell _ _ _ rfl
  have hsz := h3.size
  have hsz3 := hF.size
  refine ⟨fun k => k = x ∨ k = g' ∨ βm = some k, ⟨vm, v', βm, some g', ⟨?_, (h.rm.fr h3 (fun g hg hm => h.mo_ne hg hm)).fr hF (fun g hg he => h.m_ne (he ▸ hg)), h1.fr hF (fun g hg => by injection hg with hg; omega)⟩, .inl rfl, fun g hg => .inr (.inr hg), fun g hg => by injection hg with hg; exact .inr (.inl hg.symm), ?_⟩, ?_, ?_⟩
  · have := set_row hx 1 v'
    simpa using this
  · rintro k (rfl | rfl | hk)
    · omega
    · have := h1.lt _ rfl; omega
    · have := hS k (hSm k hk); omega
  · rintro k (rfl | rfl | hk)
    · exact .inl hSx
    · rcases h2 with h2 | h2
      · exact .inl (hSo _ h2)
      · exact .inr (by omega)
    · exact .inl (hSm k hk)
  · exact (h3.mono (S' := S) (fun k _ hk => hSo k hk)).next hF (fun k _ hk => by rw [hk]; exact hSx)

theorem now_last (h : RAt w x f ms os last S) (l : Int) : NowR w (w.setCell ⟨x, 3, none⟩ (.int .i64 l)) x f ms os l S := by
  obtain ⟨vm, vo, βm, βo, h, h1, h2, h3, h4⟩ := h
  have hF : Fr (· = x) w (w.setCell ⟨x, 3, none⟩ (.int .i64 l)) := Fr.setCell _ _ _ rfl
  have hsz := hF.size
  refine ⟨S, ⟨vm, vo, βm, βo, ⟨?_, h.rm.fr hF (fun g hg he => h.m_ne (he ▸ hg)), h.ro.fr hF (fun g hg he => h.o_ne (he ▸ hg))⟩, h1, h2, h3, fun k hk => by have := h4 k hk; omega⟩, fun k hk => .inl hk, hF.mono (fun k _ hk => by rw [hk]; exact h1)⟩
  have := set_row h.box 3 (.int .i64 l)
  simpa using this
end

theorem new_any (f : Bool) (w : World) : Calls Tryd.prog 11 #[.bool f] w fun e w' => ∃ x, e = .returned (.pointer (some ⟨x, 0, none⟩)) ∧ ∃ S, SpAt w' x ⟨f, [], 0⟩ S ∧ (∀ k, S k → w.heap.size ≤ k) ∧ Below w.heap.size w w' := by
  go_enter Tryd.func11, Tryd.ntmps11
  go_wp2
  refine bodyPost_ret (v := .pointer (some ⟨w.heap.size, 0, none⟩)) (by simp [results, Tryd.results11, go_sem]) rfl ?_
  refine ⟨_, rfl, fun k => k = w.heap.size, ⟨⟨.slice none 0 0, .slice none 0 0, none, none, ⟨?_, ⟨rfl, rfl⟩, ⟨rfl, rfl⟩⟩, rfl, by simp, by simp, ?_⟩, ⟨by simp, by simp, fun o ho => by simp [Sp.os] at ho⟩⟩, ?_, ?_⟩
  · exact heap_alloc_new w _
  · rintro k rfl; simp
  · rintro k rfl; omega
  · exact (Below.refl _ _).alloc (Nat.le_refl _) _

theorem last_any (x : Nat) (p : Sp) (S : Nat → Prop) (w : World) (h : SpAt w x p S) :
    Calls Tryd.prog 14 #[.pointer (some ⟨x, 0, none⟩)] w fun e w' => e = .returned (.int .i64 p.last) ∧ w' = w := by
  obtain ⟨⟨vm, vo, βm, βo, hK, -⟩, -⟩ := h
  have c1 := cell_row hK.box 3
  simp at c1
  clear hK
  go_enter Tryd.func14, Tryd.ntmps14
  go_wp2
  go_ret
  exact ⟨rfl, rfl⟩

end Go.Proofs.YtmbnimlibnheeabDoor
