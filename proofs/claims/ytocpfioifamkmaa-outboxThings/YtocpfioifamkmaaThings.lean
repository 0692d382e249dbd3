/-
  OutboxThings.
-/
import Derived.Test.YtocpfioifamkmaaTe
namespace Go.Proofs.Ytocpfioifamkmaa
open Go.RowKit
set_option linter.unusedVariables false

def thO (x : Nat) (p : St) : Thg := fun w S => TAt w x p S
theorem frm_th (x : Nat) (p : St) : Frm (thO x p) := ⟨fun _ _ _ _ h hF hS => h.fr hF hS, fun _ _ h => h.old⟩
def refO (y : Nat) (p : St) : Thg := fun w S => RAt w y p S
theorem frm_ref (y : Nat) (p : St) : Frm (refO y p) := ⟨fun _ _ _ _ h hF hS => h.fr hF hS, fun _ _ h => h.old⟩

/-- The two. -/
def FT (x y : Nat) (px py : St) : Nat → Thg := setO (setO (fun _ => noObj) 0 (thO x px)) 1 (refO y py)
theorem FT_x (x y : Nat) (px py p : St) : setO (FT x y px py) 0 (thO x p) = FT x y p py := by
  funext j
  rcases j with _ | _ | j <;> simp [FT, setO]
theorem FT_y (x y : Nat) (px py p : St) : setO (FT x y px py) 1 (refO y p) = FT x y px p := by
  funext j
  rcases j with _ | _ | j <;> simp [FT, setO]

section
variable {w0 w : World} {K : Nat → Prop} {x y : Nat} {px py : St}
theorem FT.okx (h : MO w0 w K (FT x y px py)) : px.ok := by
  obtain ⟨S, h1, -⟩ := h.now 0
  exact TAt.ok (S := S) (w := w) (x := x) h1
theorem th_push (h : MO w0 w K (FT x y px py)) (v : Int) : Calls Try.prog 29 #[.pointer (some ⟨x, 0, none⟩), .agg #[.string (nm v), .int .i64 0, .int .i64 v, .int .u8 0, .int .i64 0, .int .i64 (ng v)]] w fun e w' => e = .returned (.tuple #[.int .i64 (pushN px), .int .i64 (pushE px)]) ∧ MO w0 w' K (FT x y (pushS px v) py) ∧ KP K w w' := by
  obtain ⟨S, h1, h2⟩ := h.now 0
  refine (tpush_any x px v S w h1).mono ?_
  rintro e w' ⟨rfl, S', h3, h4, h5⟩
  have h6 := h2 _ w' S' (frm_th x _) h3 h4 h5
  rw [FT_x] at h6
  exact ⟨rfl, h6⟩
theorem th_rpush (h : MO w0 w K (FT x y px py)) (v : Int) : Calls Try.prog 31 #[.pointer (some ⟨y, 0, none⟩), .int .i64 v] w fun e w' => e = .returned (.tuple #[.int .i64 (pushN py), .int .i64 (pushE py)]) ∧ MO w0 w' K (FT x y px (pushS py v)) ∧ KP K w w' := by
  obtain ⟨S, h1, h2⟩ := h.now 1
  refine (rpush_any y py v S w h1).mono ?_
  rintro e w' ⟨rfl, S', h3, h4, h5⟩
  have h6 := h2 _ w' S' (frm_ref y _) h3 h4 h5
  rw [FT_y] at h6
  exact ⟨rfl, h6⟩
theorem th_ack (h : MO w0 w K (FT x y px py)) (v : Int) : Calls Try.prog 32 #[.pointer (some ⟨x, 0, none⟩), .int .i64 v] w fun e w' => e = .returned (.int .i64 (ackE px v)) ∧ MO w0 w' K (FT x y (ackS px v) py) ∧ KP K w w' := by
  obtain ⟨S, h1, h2⟩ := h.now 0
  refine (tack_any x px v S w h1).mono ?_
  rintro e w' ⟨rfl, S', h3, h4, h5⟩
  have h6 := h2 _ w' S' (frm_th x _) h3 h4 h5
  rw [FT_x] at h6
  exact ⟨rfl, h6⟩
theorem th_rack (h : MO w0 w K (FT x y px py)) (v : Int) : Calls Try.prog 33 #[.pointer (some ⟨y, 0, none⟩), .int .i64 v] w fun e w' => e = .returned (.int .i64 (ackE py v)) ∧ MO w0 w' K (FT x y px (ackS py v)) ∧ KP K w w' := by
  obtain ⟨S, h1, h2⟩ := h.now 1
  refine (rack_any y py v S w h1).mono ?_
  rintro e w' ⟨rfl, S', h3, h4, h5⟩
  have h6 := h2 _ w' S' (frm_ref y _) h3 h4 h5
  rw [FT_y] at h6
  exact ⟨rfl, h6⟩
theorem th_reset (h : MO w0 w K (FT x y px py)) : Calls Try.prog 37 #[.pointer (some ⟨x, 0, none⟩)] w fun e w' => e = .returned (.tuple #[]) ∧ MO w0 w' K (FT x y (resetS px) py) ∧ KP K w w' := by
  obtain ⟨S, h1, h2⟩ := h.now 0
  refine (treset_any x px S w h1).mono ?_
  rintro e w' ⟨rfl, S', h3, h4, h5⟩
  have h6 := h2 _ w' S' (frm_th x _) h3 h4 h5
  rw [FT_x] at h6
  exact ⟨rfl, h6⟩
theorem th_rreset (h : MO w0 w K (FT x y px py)) : Calls Try.prog 38 #[.pointer (some ⟨y, 0, none⟩)] w fun e w' => e = .returned (.tuple #[]) ∧ MO w0 w' K (FT x y px (resetS py)) ∧ KP K w w' := by
  obtain ⟨S, h1, h2⟩ := h.now 1
  refine (rreset_any y py S w h1).mono ?_
  rintro e w' ⟨rfl, S', h3, h4, h5⟩
  have h6 := h2 _ w' S' (frm_ref y _) h3 h4 h5
  rw [FT_y] at h6
  exact ⟨rfl, h6⟩
theorem th_due (h : MO w0 w K (FT x y px py)) : Calls Try.prog 34 #[.pointer (some ⟨x, 0, none⟩)] w fun e w' => ∃ u, e = .returned u ∧ TL w' w.heap.size u (dueL px) ∧ MO w0 w' (fun k => K k ∨ (w.heap.size ≤ k ∧ k < w'.heap.size)) (FT x y (dueS px) py) ∧ KP K w w' := by
  obtain ⟨S, h1, h2⟩ := h.same 0
  refine (tdue_any x px S w h1).mono ?_
  rintro e w' ⟨u, rfl, h3, h4, h5⟩
  have h6 := h2 _ w' (frm_th x (dueS px)) h4 h5
  rw [FT_x] at h6
  exact ⟨u, rfl, h3, h6⟩
theorem th_rdue (h : MO w0 w K (FT x y px py)) : Calls Try.prog 36 #[.pointer (some ⟨y, 0, none⟩)] w fun e w' => ∃ u, e = .returned u ∧ RL w' w.heap.size u (dueL py) ∧ MO w0 w' K (FT x y px (dueS py)) ∧ KP K w w' := by
  obtain ⟨S, h1, h2⟩ := h.now 1
  refine (rdue_any y py S w h1).mono ?_
  rintro e w' ⟨u, rfl, h0, S', h3, h4, h5⟩
  have h6 := h2 _ w' S' (frm_ref y _) h3 h4 h5
  rw [FT_y] at h6
  exact ⟨u, rfl, h0, h6⟩
theorem th_left (h : MO w0 w K (FT x y px py)) : Calls Try.prog 39 #[.pointer (some ⟨x, 0, none⟩)] w fun e w' => ∃ u, e = .returned u ∧ TL w' w.heap.size u (leftL px) ∧ MO w0 w' (fun k => K k ∨ (w.heap.size ≤ k ∧ k < w'.heap.size)) (FT x y px py) ∧ KP K w w' := by
  obtain ⟨S, h1, -⟩ := h.now 0
  obtain ⟨v, β, hK, -⟩ := h1
  refine (tleft_bk x px v β w hK).mono ?_
  rintro e w' ⟨u, rfl, h3, hb⟩
  refine ⟨u, rfl, h3, h.adds hb (fun k hk => hk.imp id (fun h => h.1)) ?_, h.kp hb⟩
  rintro k (hk | hk)
  · exact Nat.lt_of_lt_of_le (h.old k hk) hb.size
  · exact hk.2
theorem th_rleft (h : MO w0 w K (FT x y px py)) : Calls Try.prog 40 #[.pointer (some ⟨y, 0, none⟩)] w fun e w' => ∃ u, e = .returned u ∧ RL w' w.heap.size u (leftL py) ∧ MO w0 w' K (FT x y px py) ∧ KP K w w' := by
  obtain ⟨S, h1, h2⟩ := h.now 1
  refine (rleft_any y py S w h1).mono ?_
  rintro e w' ⟨u, rfl, h0, S', h3, h4, h5⟩
  have h6 := h2 _ w' S' (frm_ref y _) h3 h4 h5
  rw [FT_y] at h6
  exact ⟨u, rfl, h0, h6⟩
theorem th_acked (h : MO w0 w K (FT x y px py)) : Calls Try.prog 41 #[.pointer (some ⟨x, 0, none⟩)] w fun e w' => e = .returned (.int .i64 px.a) ∧ w' = w := by
  obtain ⟨S, ⟨v, β, hK, -⟩, -⟩ := h.now 0
  exact tacked_bk x px v β w hK
theorem th_sent (h : MO w0 w K (FT x y px py)) : Calls Try.prog 43 #[.pointer (some ⟨x, 0, none⟩)] w fun e w' => e = .returned (.int .i64 px.s) ∧ w' = w := by
  obtain ⟨S, ⟨v, β, hK, -⟩, -⟩ := h.now 0
  exact tsent_bk x px v β w hK
theorem th_last (h : MO w0 w K (FT x y px py)) : Calls Try.prog 45 #[.pointer (some ⟨x, 0, none⟩)] w fun e w' => e = .returned (.int .i64 px.last) ∧ MO w0 w' K (FT x y px py) ∧ KP K w w' := by
  obtain ⟨S, ⟨v, β, hK, -⟩, -⟩ := h.now 0
  refine (tlast_bk x px v β w hK).mono ?_
  rintro e w' ⟨rfl, hb⟩
  exact ⟨rfl, h.below hb, h.kp hb⟩
theorem th_racked (h : MO w0 w K (FT x y px py)) : Calls Try.prog 42 #[.pointer (some ⟨y, 0, none⟩)] w fun e w' => e = .returned (.int .i64 py.a) ∧ w' = w := by
  obtain ⟨S, h1, -⟩ := h.now 1
  exact racked_any y py S w h1
theorem th_rsent (h : MO w0 w K (FT x y px py)) : Calls Try.prog 44 #[.pointer (some ⟨y, 0, none⟩)] w fun e w' => e = .returned (.int .i64 py.s) ∧ w' = w := by
  obtain ⟨S, h1, -⟩ := h.now 1
  exact rsent_any y py S w h1
theorem th_rlast (h : MO w0 w K (FT x y px py)) : Calls Try.prog 46 #[.pointer (some ⟨y, 0, none⟩)] w fun e w' => e = .returned (.int .i64 py.last) ∧ w' = w := by
  obtain ⟨S, h1, -⟩ := h.now 1
  exact rlast_any y py S w h1
end

theorem TL.kp {w w' : World} {b : Nat} {v : Value} {xs : List (Int × Int)} (h : TL w b v xs) (hk : ∀ k, b ≤ k → k < w.heap.size → w'.heap[k]? = w.heap[k]?) : TL w' b v xs := by
  obtain ⟨g, ⟨cap, hv, cur, hh, r⟩, hg⟩ := h
  exact ⟨g, ⟨cap, hv, cur, (hk g hg (block_lt hh)).trans hh, r⟩, hg⟩
theorem leftL_few (p : St) (h : p.ok) : (leftL p).length ≤ 4096 := by
  have := h.few
  unfold leftL
  rw [items_len]
  omega
theorem dueL_few (p : St) (h : p.ok) : (dueL p).length ≤ 4096 := by
  have := h.w2
  unfold dueL
  rw [items_len]
  simp [dueN]
  omega

/-- The two and the step in a block of its own. -/
def TO (w0 w : World) (x y : Nat) (px py : St) (g : Nat) (k s n : Int) : Prop := MO w0 w (· = g) (FT x y px py) ∧ w.heap[g]? = some (.cells #[.int .i64 k, .int .i64 s, .int .i64 n] 32 (0, 0))
theorem TO.step {w0 w w' : World} {x y : Nat} {px py px' py' : St} {g : Nat} {k s n : Int} (h : TO w0 w x y px py g k s n) (h1 : MO w0 w' (· = g) (FT x y px' py')) (h2 : KP (· = g) w w') : TO w0 w' x y px' py' g k s n := ⟨h1, (h2 g rfl).trans h.2⟩
theorem TO.below {w0 w w' : World} {x y : Nat} {px py : St} {g : Nat} {k s n : Int} (h : TO w0 w x y px py g k s n) (hb : Below w.heap.size w w') : TO w0 w' x y px py g k s n := h.step (h.1.below hb) (h.1.kp hb)
theorem TO.cells {w0 w : World} {x y : Nat} {px py : St} {g : Nat} {k s n : Int} (h : TO w0 w x y px py g k s n) : w.cell? ⟨g, 0, none⟩ = some (.int .i64 k) ∧ w.cell? ⟨g, 1, none⟩ = some (.int .i64 s) ∧ w.cell? ⟨g, 2, none⟩ = some (.int .i64 n) := ⟨cell_row h.2 0, cell_row h.2 1, cell_row h.2 2⟩

set_option maxRecDepth 100000 in
set_option maxHeartbeats 32000000 in
theorem outboxThings_any (x0 : Int) (a1 : Option Addr) (n1 c1 : Nat) (O : Nat → OpV) (w : World) (hS : IsS w a1 n1 c1 O) :
    Calls Try.prog 8 #[.int .i64 x0, .slice a1 n1 c1] w fun e w' => e = .returned (.bool true) ∧ Below w.heap.size w w' := by
  by_cases hbad : x0 < 1 ∨ 4096 < x0
  · clear hS
    go_enter Try.func8, Try.ntmps8
    go_wp2_with fail
    refine (tnew_bad x0 w hbad).mono ?_
    rintro e w1 ⟨rfl, rfl⟩
    go_wp2_with fail
    refine (rnew_bad x0 w1 hbad).mono ?_
    rintro e w2 ⟨rfl, rfl⟩
    go_wp2_with fail
    refine (num_any 80 w2).mono ?_
    rintro e w3 ⟨rfl, rfl⟩
    go_wp2
    go_ret
    exact ⟨rfl, Below.refl _ _⟩
  obtain ⟨W, rfl⟩ : ∃ W : Nat, x0 = W := ⟨x0.toNat, by omega⟩
  have hW1 : 1 ≤ W := by omega
  have hW2 : W ≤ 4096 := by omega
  have HS := hd hS
  have n1c := hS.1
  have n1m := hS.2.1
  clear hbad hS
  go_enter Try.func8, Try.ntmps8
  go_wp2_with fail
  refine (tnew_good W w hW1 hW2).mono ?_
  rintro e w1 ⟨x, rfl, S1, h1, h2, h3⟩
  have M1 := hd ((MO.nil w).put 0 (frm_th x ⟨W, 0, 0, []⟩) h1 h2 h3)
  clear h1 h2 h3
  go_wp2_with fail
  refine (rnew_good W w1 hW1 hW2).mono ?_
  rintro e w2 ⟨y, rfl, S2, h1, h2, h3⟩
  have S0 : Hid (∃ p, MO w w2 NoK (FT x y p p)) := ⟨_, M1.out.put 1 (frm_ref y ⟨W, 0, 0, []⟩) h1 h2 h3⟩
  clear h1 h2 h3 M1
  go_wp2_with fail
  refine (num_any 0 w2).mono ?_
  rintro e w3 ⟨rfl, hw3⟩
  subst hw3
  go_wp2_with fail
  go_loopw [9] (fun vi wr => ∃ i : Nat, i ≤ n1 ∧ vi = .int .i64 i ∧ Hid (∃ p, MO w wr NoK (FT x y p p))) (fun vi _ => n1 - (intOf vi).toNat)
  case atStart => exact ⟨0, Nat.zero_le _, rfl, S0⟩
  case round =>
    obtain ⟨i, hi, rfl, HT⟩ := hrel
    clear S0
    obtain ⟨p, hM⟩ := HT.out
    by_cases hlt : i < n1
    · obtain ⟨b, off, rfl, -, hc⟩ := (HS.out.below hM.base (Nat.le_refl _)).2.2 (by omega)
      obtain ⟨k0, k1, k2⟩ := hc i hlt
      generalize O i = o at k0 k1 k2
      obtain ⟨ko, so, no⟩ := o
      simp only at k0 k1 k2
      have T1 : Hid (TO w (wr.alloc (.cells #[.int .i64 ko, .int .i64 so, .int .i64 no] 32)) x y p p wr.heap.size ko so no) :=
        ⟨hM.adds ((Below.refl _ _).alloc (Nat.le_refl _) _) (fun k hk => .inr (by omega)) (fun k hk => by rw [hk]; simp), heap_alloc_new _ _⟩
      have i1 : (i : Int) < (n1 : Int) := by omega
      clear hM hc HT
      by_cases q1 : ko = 1
      · subst q1
        go_wp2_with fail
        refine (thing_any no _).mono ?_
        rintro e w2 ⟨rfl, hb⟩
        have T2 := hd (T1.out.below hb)
        obtain ⟨q0, q1, q2⟩ := T2.out.cells
        clear hb T1 k0 k1 k2
        go_wp2_with fail
        refine (th_push T2.out.1 no).mono ?_
        rintro e w3 ⟨rfl, h1, h2⟩
        have T3 := hd (T2.out.step h1 h2)
        clear h1 h2 T2 q0 q1 q2
        obtain ⟨q0, q1, q2⟩ := T3.out.cells
        go_wp2_with fail
        refine (th_rpush T3.out.1 no).mono ?_
        rintro e w4 ⟨rfl, h1, h2⟩
        have TT := hd (T3.out.step h1 h2)
        clear h1 h2 T3 q0 q1 q2
        have M := hd (TT.out.1.less (K' := NoK) (fun k hk => hk.elim))
        generalize pushS p no = p5 at M
        clear TT
        generalize pushN p = vn
        generalize pushE p = ve
        go_wp2_with fail
        refine (num_any ve _).mono ?_
        rintro e w5 ⟨rfl, hw5⟩
        subst hw5
        have OK := hd (FT.okx M.out)
        obtain ⟨va, hva⟩ : ∃ va, p5.a = va := ⟨_, rfl⟩
        obtain ⟨vs, hvs⟩ : ∃ vs, p5.s = vs := ⟨_, rfl⟩
        obtain ⟨vl, hvl⟩ : ∃ vl, p5.last = vl := ⟨_, rfl⟩
        have HV := hd (And.intro hva (And.intro hvs hvl))
        clear hva hvs hvl
        go_wp2_with fail
        refine (th_left M.out).mono ?_
        rintro e wa ⟨u, rfl, h1, h2, -⟩
        obtain ⟨gu, cu, rfl, -⟩ := h1.form
        have M2 := hd (And.intro h1 h2)
        clear h1 h2 M
        go_wp2_with fail
        refine (th_rleft M2.out.2).mono ?_
        rintro e wb ⟨u, rfl, h1, h2, h3⟩
        have I1 := M2.out.1.kp (w' := wb) (fun k h4 h5 => h3 k (.inr ⟨h4, h5⟩))
        have C := hd (sameThings_true _ _ _ _ _ wb I1 h1 (leftL_few _ OK.out))
        obtain ⟨βv, hSv, -⟩ := h1
        obtain ⟨av, cv, rfl, -⟩ := hSv.form
        have M3 := hd (h2.less (K' := NoK) (fun k hk => hk.elim))
        clear h2 h3 I1 M2 hSv
        go_wp2_with fail
        refine C.out.mono ?_
        rintro e wc ⟨rfl, hb⟩
        have M4 := hd (M3.out.below hb)
        clear hb M3 C
        go_wp2_with fail
        refine (th_acked M4.out).mono ?_
        rintro e wd ⟨rfl, hwd⟩
        subst hwd
        rw [HV.out.1]
        go_wp2_with fail
        refine (th_racked M4.out).mono ?_
        rintro e wd ⟨rfl, hwd⟩
        subst hwd
        rw [HV.out.1]
        go_wp2_with fail
        refine (th_sent M4.out).mono ?_
        rintro e wd ⟨rfl, hwd⟩
        subst hwd
        rw [HV.out.2.1]
        go_wp2_with fail
        refine (th_rsent M4.out).mono ?_
        rintro e wd ⟨rfl, hwd⟩
        subst hwd
        rw [HV.out.2.1]
        go_wp2_with fail
        refine (th_last M4.out).mono ?_
        rintro e we ⟨rfl, h1, -⟩
        rw [HV.out.2.2]
        have M5 := hd h1
        clear h1 M4
        go_wp2_with fail
        refine (th_rlast M5.out).mono ?_
        rintro e wd ⟨rfl, hwd⟩
        subst hwd
        rw [HV.out.2.2]
        have Z : Hid (∃ p, MO w wd NoK (FT x y p p)) := ⟨_, M5.out⟩
        clear M5
        go_wp2_with fail
        exact ⟨⟨i + 1, by omega, by go_num, Z⟩, by simp [intOf]; omega⟩
      by_cases q3 : ko = 3
      · subst q3
        obtain ⟨q0, q1, q2⟩ := T1.out.cells
        go_wp2_with fail
        refine (th_ack T1.out.1 no).mono ?_
        rintro e w3 ⟨rfl, h1, h2⟩
        have T3 := hd (T1.out.step h1 h2)
        clear h1 h2 T1 q0 q1 q2 k0 k1 k2
        obtain ⟨q0, q1, q2⟩ := T3.out.cells
        have C1 : Hid (∀ U, Below w3.heap.size w3 U → Calls Try.prog 33 #[.pointer (some ⟨y, 0, none⟩), .int .i64 no] U fun e w' => e = .returned (.int .i64 (ackE p no)) ∧ TO w w' x y (ackS p no) (ackS p no) wr.heap.size 3 so no) := by
          intro U hU
          have h9 := T3.out.below hU
          refine (th_rack h9.1 no).mono ?_
          rintro e w' ⟨rfl, h1, h2⟩
          exact ⟨rfl, h9.step h1 h2⟩
        generalize ackE p no = ve at C1
        go_upto_region 19 with fail
        go_cut [90] (fun v wx => v = .bool false ∧ Hid (TO w wx x y (ackS p no) (ackS p no) wr.heap.size 3 so no))
        case first =>
          go_region_law (first | (go_simp; go_at_call 33; refine (C1.out _ (by repeat (first | exact Below.refl _ _ | refine Below.drew ?_ | refine below_drewN ?_ _))).mono ?_; rintro ex w4 ⟨rfl, h3⟩; have Z3 := hd h3; clear h3) | (go_simp; go_at_call 10; refine (num_any ve _).mono ?_; rintro ex w5 ⟨rfl, hw5⟩; subst hw5))
          all_goals
            go_wp2_with fail
            go_meet
            refine ⟨by simp, Z3.out.below ?_⟩
            repeat (first | exact Below.refl _ _ | refine Below.drew ?_ | refine below_drewN ?_ _)
        case rest =>
        obtain ⟨rfl, TT⟩ := hcut
        clear C1 T3 q0 q1 q2
        have M := hd (TT.out.1.less (K' := NoK) (fun k hk => hk.elim))
        generalize ackS p no = p5 at M
        clear TT
        have OK := hd (FT.okx M.out)
        obtain ⟨va, hva⟩ : ∃ va, p5.a = va := ⟨_, rfl⟩
        obtain ⟨vs, hvs⟩ : ∃ vs, p5.s = vs := ⟨_, rfl⟩
        obtain ⟨vl, hvl⟩ : ∃ vl, p5.last = vl := ⟨_, rfl⟩
        have HV := hd (And.intro hva (And.intro hvs hvl))
        clear hva hvs hvl
        go_wp2_with fail
        refine (th_left M.out).mono ?_
        rintro e wa ⟨u, rfl, h1, h2, -⟩
        obtain ⟨gu, cu, rfl, -⟩ := h1.form
        have M2 := hd (And.intro h1 h2)
        clear h1 h2 M
        go_wp2_with fail
        refine (th_rleft M2.out.2).mono ?_
        rintro e wb ⟨u, rfl, h1, h2, h3⟩
        have I1 := M2.out.1.kp (w' := wb) (fun k h4 h5 => h3 k (.inr ⟨h4, h5⟩))
        have C := hd (sameThings_true _ _ _ _ _ wb I1 h1 (leftL_few _ OK.out))
        obtain ⟨βv, hSv, -⟩ := h1
        obtain ⟨av, cv, rfl, -⟩ := hSv.form
        have M3 := hd (h2.less (K' := NoK) (fun k hk => hk.elim))
        clear h2 h3 I1 M2 hSv
        go_wp2_with fail
        refine C.out.mono ?_
        rintro e wc ⟨rfl, hb⟩
        have M4 := hd (M3.out.below hb)
        clear hb M3 C
        go_wp2_with fail
        refine (th_acked M4.out).mono ?_
        rintro e wd ⟨rfl, hwd⟩
        subst hwd
        rw [HV.out.1]
        go_wp2_with fail
        refine (th_racked M4.out).mono ?_
        rintro e wd ⟨rfl, hwd⟩
        subst hwd
        rw [HV.out.1]
        go_wp2_with fail
        refine (th_sent M4.out).mono ?_
        rintro e wd ⟨rfl, hwd⟩
        subst hwd
        rw [HV.out.2.1]
        go_wp2_with fail
        refine (th_rsent M4.out).mono ?_
        rintro e wd ⟨rfl, hwd⟩
        subst hwd
        rw [HV.out.2.1]
        go_wp2_with fail
        refine (th_last M4.out).mono ?_
        rintro e we ⟨rfl, h1, -⟩
        rw [HV.out.2.2]
        have M5 := hd h1
        clear h1 M4
        go_wp2_with fail
        refine (th_rlast M5.out).mono ?_
        rintro e wd ⟨rfl, hwd⟩
        subst hwd
        rw [HV.out.2.2]
        have Z : Hid (∃ p, MO w wd NoK (FT x y p p)) := ⟨_, M5.out⟩
        clear M5
        go_wp2_with fail
        exact ⟨⟨i + 1, by omega, by go_num, Z⟩, by simp [intOf]; omega⟩
      by_cases q2 : ko = 2
      · subst q2
        go_wp2_with fail
        refine (th_due T1.out.1).mono ?_
        rintro e w2 ⟨u, rfl, h1, h2, h3⟩
        obtain ⟨gu, cu, rfl, -⟩ := h1.form
        have T2 := hd (And.intro h1 h2)
        have OK0 := hd (FT.okx T1.out.1)
        clear h1 h2 h3 T1 k0 k1 k2
        go_wp2_with fail
        refine (th_rdue T2.out.2).mono ?_
        rintro e w3 ⟨u, rfl, h1, h2, h3⟩
        have I1 := T2.out.1.kp (w' := w3) (fun k h4 h5 => h3 k (.inr ⟨h4, h5⟩))
        have C := hd (sameThings_true _ _ _ _ _ w3 I1 h1 (dueL_few _ OK0.out))
        obtain ⟨βv, hSv, -⟩ := h1
        obtain ⟨av, cv, rfl, -⟩ := hSv.form
        have M3 := hd (h2.less (K' := NoK) (fun k hk => hk.elim))
        clear h2 h3 I1 T2 hSv OK0
        go_wp2_with fail
        refine C.out.mono ?_
        rintro e w4 ⟨rfl, hb⟩
        have M := hd (M3.out.below hb)
        generalize dueS p = p5 at M
        clear hb M3 C
        have OK := hd (FT.okx M.out)
        obtain ⟨va, hva⟩ : ∃ va, p5.a = va := ⟨_, rfl⟩
        obtain ⟨vs, hvs⟩ : ∃ vs, p5.s = vs := ⟨_, rfl⟩
        obtain ⟨vl, hvl⟩ : ∃ vl, p5.last = vl := ⟨_, rfl⟩
        have HV := hd (And.intro hva (And.intro hvs hvl))
        clear hva hvs hvl
        go_wp2_with fail
        refine (th_left M.out).mono ?_
        rintro e wa ⟨u, rfl, h1, h2, -⟩
        obtain ⟨gu, cu, rfl, -⟩ := h1.form
        have M2 := hd (And.intro h1 h2)
        clear h1 h2 M
        go_wp2_with fail
        refine (th_rleft M2.out.2).mono ?_
        rintro e wb ⟨u, rfl, h1, h2, h3⟩
        have I1 := M2.out.1.kp (w' := wb) (fun k h4 h5 => h3 k (.inr ⟨h4, h5⟩))
        have C := hd (sameThings_true _ _ _ _ _ wb I1 h1 (leftL_few _ OK.out))
        obtain ⟨βv, hSv, -⟩ := h1
        obtain ⟨av, cv, rfl, -⟩ := hSv.form
        have M3 := hd (h2.less (K' := NoK) (fun k hk => hk.elim))
        clear h2 h3 I1 M2 hSv
        go_wp2_with fail
        refine C.out.mono ?_
        rintro e wc ⟨rfl, hb⟩
        have M4 := hd (M3.out.below hb)
        clear hb M3 C
        go_wp2_with fail
        refine (th_acked M4.out).mono ?_
        rintro e wd ⟨rfl, hwd⟩
        subst hwd
        rw [HV.out.1]
        go_wp2_with fail
        refine (th_racked M4.out).mono ?_
        rintro e wd ⟨rfl, hwd⟩
        subst hwd
        rw [HV.out.1]
        go_wp2_with fail
        refine (th_sent M4.out).mono ?_
        rintro e wd ⟨rfl, hwd⟩
        subst hwd
        rw [HV.out.2.1]
        go_wp2_with fail
        refine (th_rsent M4.out).mono ?_
        rintro e wd ⟨rfl, hwd⟩
        subst hwd
        rw [HV.out.2.1]
        go_wp2_with fail
        refine (th_last M4.out).mono ?_
        rintro e we ⟨rfl, h1, -⟩
        rw [HV.out.2.2]
        have M5 := hd h1
        clear h1 M4
        go_wp2_with fail
        refine (th_rlast M5.out).mono ?_
        rintro e wd ⟨rfl, hwd⟩
        subst hwd
        rw [HV.out.2.2]
        have Z : Hid (∃ p, MO w wd NoK (FT x y p p)) := ⟨_, M5.out⟩
        clear M5
        go_wp2_with fail
        exact ⟨⟨i + 1, by omega, by go_num, Z⟩, by simp [intOf]; omega⟩
      by_cases q8 : ko = 8
      · subst q8
        go_wp2_with fail
        refine (th_reset T1.out.1).mono ?_
        rintro e w2 ⟨rfl, h1, h2⟩
        have T2 := hd (T1.out.step h1 h2)
        clear h1 h2 T1 k0 k1 k2
        go_wp2_with fail
        refine (th_rreset T2.out.1).mono ?_
        rintro e w3 ⟨rfl, h1, h2⟩
        have TT := hd (T2.out.step h1 h2)
        clear h1 h2 T2
        have M := hd (TT.out.1.less (K' := NoK) (fun k hk => hk.elim))
        generalize resetS p = p5 at M
        clear TT
        have OK := hd (FT.okx M.out)
        obtain ⟨va, hva⟩ : ∃ va, p5.a = va := ⟨_, rfl⟩
        obtain ⟨vs, hvs⟩ : ∃ vs, p5.s = vs := ⟨_, rfl⟩
        obtain ⟨vl, hvl⟩ : ∃ vl, p5.last = vl := ⟨_, rfl⟩
        have HV := hd (And.intro hva (And.intro hvs hvl))
        clear hva hvs hvl
        go_wp2_with fail
        refine (th_left M.out).mono ?_
        rintro e wa ⟨u, rfl, h1, h2, -⟩
        obtain ⟨gu, cu, rfl, -⟩ := h1.form
        have M2 := hd (And.intro h1 h2)
        clear h1 h2 M
        go_wp2_with fail
        refine (th_rleft M2.out.2).mono ?_
        rintro e wb ⟨u, rfl, h1, h2, h3⟩
        have I1 := M2.out.1.kp (w' := wb) (fun k h4 h5 => h3 k (.inr ⟨h4, h5⟩))
        have C := hd (sameThings_true _ _ _ _ _ wb I1 h1 (leftL_few _ OK.out))
        obtain ⟨βv, hSv, -⟩ := h1
        obtain ⟨av, cv, rfl, -⟩ := hSv.form
        have M3 := hd (h2.less (K' := NoK) (fun k hk => hk.elim))
        clear h2 h3 I1 M2 hSv
        go_wp2_with fail
        refine C.out.mono ?_
        rintro e wc ⟨rfl, hb⟩
        have M4 := hd (M3.out.below hb)
        clear hb M3 C
        go_wp2_with fail
        refine (th_acked M4.out).mono ?_
        rintro e wd ⟨rfl, hwd⟩
        subst hwd
        rw [HV.out.1]
        go_wp2_with fail
        refine (th_racked M4.out).mono ?_
        rintro e wd ⟨rfl, hwd⟩
        subst hwd
        rw [HV.out.1]
        go_wp2_with fail
        refine (th_sent M4.out).mono ?_
        rintro e wd ⟨rfl, hwd⟩
        subst hwd
        rw [HV.out.2.1]
        go_wp2_with fail
        refine (th_rsent M4.out).mono ?_
        rintro e wd ⟨rfl, hwd⟩
        subst hwd
        rw [HV.out.2.1]
        go_wp2_with fail
        refine (th_last M4.out).mono ?_
        rintro e we ⟨rfl, h1, -⟩
        rw [HV.out.2.2]
        have M5 := hd h1
        clear h1 M4
        go_wp2_with fail
        refine (th_rlast M5.out).mono ?_
        rintro e wd ⟨rfl, hwd⟩
        subst hwd
        rw [HV.out.2.2]
        have Z : Hid (∃ p, MO w wd NoK (FT x y p p)) := ⟨_, M5.out⟩
        clear M5
        go_wp2_with fail
        exact ⟨⟨i + 1, by omega, by go_num, Z⟩, by simp [intOf]; omega⟩
      · have q9 : ¬ ko = 1 := q1
        have M := hd (T1.out.1.less (K' := NoK) (fun k hk => hk.elim))
        obtain ⟨p5, hp5⟩ : ∃ p5, p = p5 := ⟨_, rfl⟩
        subst hp5
        clear T1
        have OK := hd (FT.okx M.out)
        obtain ⟨va, hva⟩ : ∃ va, p.a = va := ⟨_, rfl⟩
        obtain ⟨vs, hvs⟩ : ∃ vs, p.s = vs := ⟨_, rfl⟩
        obtain ⟨vl, hvl⟩ : ∃ vl, p.last = vl := ⟨_, rfl⟩
        have HV := hd (And.intro hva (And.intro hvs hvl))
        clear hva hvs hvl
        go_wp2_with fail
        refine (th_left M.out).mono ?_
        rintro e wa ⟨u, rfl, h1, h2, -⟩
        obtain ⟨gu, cu, rfl, -⟩ := h1.form
        have M2 := hd (And.intro h1 h2)
        clear h1 h2 M
        go_wp2_with fail
        refine (th_rleft M2.out.2).mono ?_
        rintro e wb ⟨u, rfl, h1, h2, h3⟩
        have I1 := M2.out.1.kp (w' := wb) (fun k h4 h5 => h3 k (.inr ⟨h4, h5⟩))
        have C := hd (sameThings_true _ _ _ _ _ wb I1 h1 (leftL_few _ OK.out))
        obtain ⟨βv, hSv, -⟩ := h1
        obtain ⟨av, cv, rfl, -⟩ := hSv.form
        have M3 := hd (h2.less (K' := NoK) (fun k hk => hk.elim))
        clear h2 h3 I1 M2 hSv
        go_wp2_with fail
        refine C.out.mono ?_
        rintro e wc ⟨rfl, hb⟩
        have M4 := hd (M3.out.below hb)
        clear hb M3 C
        go_wp2_with fail
        refine (th_acked M4.out).mono ?_
        rintro e wd ⟨rfl, hwd⟩
        subst hwd
        rw [HV.out.1]
        go_wp2_with fail
        refine (th_racked M4.out).mono ?_
        rintro e wd ⟨rfl, hwd⟩
        subst hwd
        rw [HV.out.1]
        go_wp2_with fail
        refine (th_sent M4.out).mono ?_
        rintro e wd ⟨rfl, hwd⟩
        subst hwd
        rw [HV.out.2.1]
        go_wp2_with fail
        refine (th_rsent M4.out).mono ?_
        rintro e wd ⟨rfl, hwd⟩
        subst hwd
        rw [HV.out.2.1]
        go_wp2_with fail
        refine (th_last M4.out).mono ?_
        rintro e we ⟨rfl, h1, -⟩
        rw [HV.out.2.2]
        have M5 := hd h1
        clear h1 M4
        go_wp2_with fail
        refine (th_rlast M5.out).mono ?_
        rintro e wd ⟨rfl, hwd⟩
        subst hwd
        rw [HV.out.2.2]
        have Z : Hid (∃ p, MO w wd NoK (FT x y p p)) := ⟨_, M5.out⟩
        clear M5
        go_wp2_with fail
        exact ⟨⟨i + 1, by omega, by go_num, Z⟩, by simp [intOf]; omega⟩
    · have i1 : ¬ (i : Int) < (n1 : Int) := by omega
      have M := hd hM
      have OK := hd (FT.okx hM)
      clear hM HT HS
      go_wp2_with fail
      refine (th_due M.out).mono ?_
      rintro e wa ⟨u, rfl, h1, h2, -⟩
      obtain ⟨gu, cu, rfl, -⟩ := h1.form
      have M2 := hd (And.intro h1 h2)
      clear h1 h2 M
      go_wp2_with fail
      refine (th_rdue M2.out.2).mono ?_
      rintro e wb ⟨u, rfl, h1, h2, h3⟩
      have I1 := M2.out.1.kp (w' := wb) (fun k h4 h5 => h3 k (.inr ⟨h4, h5⟩))
      have C := hd (sameThings_true _ _ _ _ _ wb I1 h1 (dueL_few _ OK.out))
      obtain ⟨βv, hSv, -⟩ := h1
      obtain ⟨av, cv, rfl, -⟩ := hSv.form
      have M3 := hd h2.base
      clear h2 h3 I1 M2 hSv
      go_wp2_with fail
      refine C.out.mono ?_
      rintro e wc ⟨rfl, hb⟩
      have Z : Hid (Below w.heap.size w wc) := M3.out.trans (hb.mono M3.out.size)
      clear hb M3 C
      go_wp2
      go_ret
      exact ⟨rfl, Z.out⟩

end Go.Proofs.Ytocpfioifamkmaa
