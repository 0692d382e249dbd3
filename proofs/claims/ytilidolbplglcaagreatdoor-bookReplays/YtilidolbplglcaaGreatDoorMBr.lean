/-
  Texts put together: Br Bs Bt.
-/
import Derived.Test.YtilidolbplglcaaGreatDoorMWe
import Derived.Test.YtilidolbplglcaaGreatDoorVa
/-! Br -/
namespace Go.Proofs.YtilidolbplglcaaGreatDoor
open Go.RowKit
set_option linter.unusedVariables false

def mkN : Int → List Pc → List OpE → Int → Int → Int
  | _, [], _, _, n => n
  | k, p :: O, F, N, n => if p.t = k then mkN k O (F ++ [p.o]) N (N + grL F) else n
def lifeN : Nat → List Pc → List OpE → Int → Int → List Ev → Int
  | k, O, F, N, n, [] => mkN k O F N n
  | k, O, F, N, n, .own _ :: l => lifeN (k + 1) (mkF k O F).1 ((mkF k O F).2.drop 1) (N + grL ((mkF k O F).2.take 1)) (mkN k O F N n) l
  | k, O, F, N, n, .oth r :: l => lifeN (k + 1) (mkF k O F).1 (throughP r (mkF k O F).2 false).2 (N + gr r) (mkN k O F N n) l

theorem lifeN_none (l : List Ev) : ∀ (k : Nat) (F : List OpE) (N n : Int), lifeN k [] F N n l = n := by
  induction l with
  | nil => intro k F N n; rfl
  | cons ev l ih =>
    intro k F N n
    cases ev with
    | own p => simp only [lifeN, mkF, mkN]; exact ih _ _ _ _
    | oth r => simp only [lifeN, mkF, mkN]; exact ih _ _ _ _

/-- The last edit is made here. -/
theorem mkN_last (k : Int) (e : Pc) (O : List Pc) : ∀ (F : List OpE) (N n : Int), (∀ p ∈ O ++ [e], p.t = k) → mkN k (O ++ [e]) F N n = N + grL (F ++ O.map (·.o)) ∧ mkF k (O ++ [e]) F = ([], F ++ O.map (·.o) ++ [e.o]) := by
  induction O with
  | nil =>
    intro F N n h
    have he := h e (by simp)
    simp [mkN, mkF, he]
  | cons p O ih =>
    intro F N n h
    have hp := h p (by simp)
    obtain ⟨h1, h2⟩ := ih (F ++ [p.o]) N (N + grL F) (fun x hx => h x (by simp at hx ⊢; exact .inr hx))
    constructor
    · rw [List.cons_append, mkN, if_pos hp, h1]
      simp
    · rw [List.cons_append, mkF, if_pos hp, h2]
      simp

theorem life_len (e : Pc) (l : List Ev) : ∀ (k : Nat) (q : List (Int × OpE)) (W O1 : List Pc) (F : List OpE) (N n : Int), Par true q W F → (∀ x ∈ q, x.1 ≤ k) → (∀ p ∈ W, p.t ≤ k) → (∀ p ∈ O1 ++ [e], (k : Int) ≤ p.t) → ((O1 ++ [e]).map (·.t)).Pairwise (· ≤ ·) →
    W ++ O1 = owns l → TagOk k l → e.t ≤ k + l.length → srvN k q N l = lifeN k (O1 ++ [e]) F N n l + grL ((dropQ (srvQ k q l) e.t).map (·.2)) := by
  induction l with
  | nil =>
    intro k q W O1 F N n h hq hW hO hs hown _ he
    simp only [owns, List.append_eq_nil_iff] at hown
    obtain ⟨rfl, rfl⟩ := hown
    have h1 := hO e (by simp)
    have h2 : e.t = (k : Int) := by simp at he; omega
    rw [Par.nil h]
    simp only [srvN, lifeN, srvQ, List.nil_append, mkN, if_pos h2, grL_nil]
    rw [dropQ_all (fun x hx => by rw [h2]; exact hq x hx)]
    simp [grL_nil]
  | cons ev l ih =>
    intro k q W O1 F N n h hq hW hO hs hown htag he
    by_cases hek : e.t = (k : Int)
    · -- it is made here
      have hall : ∀ p ∈ O1 ++ [e], p.t = (k : Int) := by
        intro p hp
        have h1 := hO p hp
        rcases List.mem_append.1 hp with hp | hp
        · rw [List.map_append, List.pairwise_append] at hs
          have := hs.2.2 p.t (List.mem_map_of_mem hp) e.t (by simp)
          omega
        · simp at hp; subst hp; exact hek
      obtain ⟨m1, m2⟩ := mkN_last k e O1 F N n hall
      have hpar : ∀ (O W : List Pc) (F : List OpE), Par true q W F → (∀ p ∈ O, p.t = (k : Int)) → Par true q (W ++ O) (F ++ O.map (·.o)) := by
        intro O
        induction O with
        | nil => intro W F h _; simpa using h
        | cons p O ihO =>
          intro W F h hp
          have := ihO (W ++ [p]) (F ++ [p.o]) (Par.snoc W q F p (fun x hx => by rw [hp p (by simp)]; exact hq x hx) h) (fun y hy => hp y (by simp [hy]))
          simpa using this
      have hP := hpar O1 W F h (fun p hp => hall p (by simp [hp]))
      have hlen := len_queue e (N + grL (F ++ O1.map (·.o))) (ev :: l) k q (W ++ O1) (F ++ O1.map (·.o)) N hP (fun p hp => by
        rcases List.mem_append.1 hp with hp | hp
        · exact hW p hp
        · have := hall p (by simp [hp]); omega) (by omega) hown (by
        rw [dropQ_all (fun x hx => pastQ_all (P := fun m => m ≤ e.t) (W ++ O1) q (fun y hy => by have := hq y hy; show y.1 ≤ e.t; omega) x hx)]
        simp [grL_nil])
      rw [hlen]
      cases ev with
      | own p => simp only [lifeN, m2, lifeN_none, m1]
      | oth r => simp only [lifeN, m2, lifeN_none, m1]
    · obtain ⟨M, h1, h2, h3, h4, h5⟩ := mkF_par (k := (k : Int)) hq (O1 ++ [e]) W F h hO hs hW
      have hkeep : ∃ O2, (mkF k (O1 ++ [e]) F).1 = O2 ++ [e] ∧ O1 = M ++ O2 := by
        rcases List.eq_nil_or_concat (mkF k (O1 ++ [e]) F).1 with h0 | ⟨A, x, h0⟩
        · exfalso
          rw [h0, List.append_nil] at h1
          have := h3 e (by rw [← h1]; simp)
          have := hO e (by simp)
          omega
        · rw [List.concat_eq_append] at h0
          rw [h0] at h1
          rw [← List.append_assoc] at h1
          obtain ⟨h6, h7⟩ := List.append_inj' h1 rfl
          injection h7 with h7
          subst h7
          exact ⟨A, by rw [h0], h6⟩
      obtain ⟨O2, h6, h7⟩ := hkeep
      have hown' : (W ++ M) ++ O2 = owns (ev :: l) := by rw [← hown, h7, List.append_assoc]
      rw [h6] at h4 h5
      cases ev with
      | own p =>
        simp only [lifeN, srvN, srvQ, owns, TagOk, List.length_cons] at *
        cases hWM : W ++ M with
        | nil =>
          exfalso
          rw [hWM, List.nil_append] at hown'
          have := h4 p (by rw [hown']; simp)
          have := htag.1
          omega
        | cons x W' =>
          rw [hWM, List.cons_append] at hown'
          injection hown' with hx hr
          subst hx
          rw [hWM] at h2 h3
          cases hB : (mkF k (O1 ++ [e]) F).2 with
          | nil => rw [hB] at h2; exact h2.elim
          | cons b B =>
            rw [hB] at h2
            rw [h6]
            have e1 : N + grL ((b :: B).take 1) = N + gr (thrQ x.o (dropQ q x.t) true).1 := by
              rw [h2.1]
              simp [grL_cons, grL_nil]
            rw [e1]
            simp only [List.drop_succ_cons, List.drop_zero]
            refine ih (k + 1) _ W' O2 B _ _ h2.2 (fun y hy => ?_) (fun y hy => ?_) (fun y hy => ?_) h5 hr htag.2 (by omega)
            · have := thrQ_all (p := fun m => m ≤ (k : Int)) (fun z hz => hq z (dropQ_mem hz)) y hy
              omega
            · have := h3 y (by simp [hy])
              omega
            · have := h4 y hy
              omega
      | oth r =>
        simp only [lifeN, srvN, srvQ, owns, TagOk, List.length_cons] at *
        rw [h6]
        refine ih (k + 1) _ (W ++ M) O2 _ _ _ (Par.more (W ++ M) q _ ((k : Int) + 1) r (fun y hy => by have := h3 y hy; omega) h2) (fun y hy => ?_) (fun y hy => ?_) (fun y hy => ?_) h5 hown' htag (by omega)
        · rcases List.mem_append.1 hy with hy | hy
          · have := hq y hy
            omega
          · simp at hy
            subst hy
            simp
        · have := h3 y hy
          omega
        · have := h4 y hy
          omega

end Go.Proofs.YtilidolbplglcaaGreatDoor

/-! Bs -/
namespace Go.Proofs.YtilidolbplglcaaGreatDoor
open Go.RowKit
set_option linter.unusedVariables false

structure Ed where
  tag : Int
  o : OpE

/-- The records as client c sees them. -/
def evO (c : Int) : List Ed → List OpE → List Ev
  | e :: E, d :: D => (if e.o.cl = c then Ev.own ⟨0, e.tag, e.o⟩ else Ev.oth d) :: evO c E D
  | _, _ => []
theorem evO_len (c : Int) : ∀ (E : List Ed) (D : List OpE), D.length = E.length → (evO c E D).length = E.length
  | [], [], _ => rfl
  | e :: E, d :: D, h => by
    simp only [evO, List.length_cons]
    rw [evO_len c E D (by simpa using h)]
theorem evO_snoc (c : Int) (e : Ed) (d : OpE) : ∀ (E : List Ed) (D : List OpE), D.length = E.length → evO c (E ++ [e]) (D ++ [d]) = evO c E D ++ [if e.o.cl = c then Ev.own ⟨0, e.tag, e.o⟩ else Ev.oth d]
  | [], [], _ => rfl
  | x :: E, y :: D, h => by
    simp only [evO, List.cons_append]
    rw [evO_snoc c e d E D (by simpa using h)]
theorem srvQ_app : ∀ (l m : List Ev) (k : Nat) (q : List (Int × OpE)), srvQ k q (l ++ m) = srvQ (k + l.length) (srvQ k q l) m
  | [], m, k, q => rfl
  | .own p :: l, m, k, q => by
    simp only [List.cons_append, srvQ, List.length_cons]
    rw [srvQ_app l m, show k + 1 + l.length = k + (l.length + 1) by omega]
  | .oth r :: l, m, k, q => by
    simp only [List.cons_append, srvQ, List.length_cons]
    rw [srvQ_app l m, show k + 1 + l.length = k + (l.length + 1) by omega]
/-- The queue of a client. -/
def quQ (c : Int) (E : List Ed) (D : List OpE) : List (Int × OpE) := srvQ 0 [] (evO c E D)
/-- The done form of the next edit. -/
def dnP (E : List Ed) (D : List OpE) (e : Ed) : OpE := (thrQ e.o (dropQ (quQ e.o.cl E D) e.tag) true).1
/-- How long its text was. -/
def lnP (E : List Ed) (D : List OpE) (e : Ed) : Int := grL D - grL ((dropQ (quQ e.o.cl E D) e.tag).map (·.2))
theorem quQ_own {E : List Ed} {D : List OpE} (h : D.length = E.length) (e : Ed) (d : OpE) : quQ e.o.cl (E ++ [e]) (D ++ [d]) = (thrQ e.o (dropQ (quQ e.o.cl E D) e.tag) true).2 := by
  unfold quQ
  rw [evO_snoc _ _ _ _ _ h, srvQ_app, if_pos rfl]
  rfl
theorem quQ_oth {E : List Ed} {D : List OpE} (h : D.length = E.length) {c : Int} {e : Ed} (hc : e.o.cl ≠ c) (d : OpE) : quQ c (E ++ [e]) (D ++ [d]) = quQ c E D ++ [((E.length : Int) + 1, d)] := by
  unfold quQ
  rw [evO_snoc _ _ _ _ _ h, srvQ_app, if_neg hc, evO_len _ _ _ h, Nat.zero_add]
  rfl
/-- The last Seq and tag of a client. -/
def laP (c : Int) (E : List Ed) : Int × Int := E.foldl (fun a e => if e.o.cl = c then (e.o.sq, e.tag) else a) (0, 0)
theorem laP_snoc (c : Int) (E : List Ed) (e : Ed) : laP c (E ++ [e]) = if e.o.cl = c then (e.o.sq, e.tag) else laP c E := by
  unfold laP
  rw [List.foldl_append]
  rfl
/-- What Check tells of an edit, behind a boot. -/
def chkP (E : List Ed) (D : List OpE) (e : Ed) : Int :=
  if validP e.o ≠ 0 then validP e.o else if e.o.kind = 0 then 122 else if e.o.sq ≤ (laP e.o.cl E).1 then 128 else if (laP e.o.cl E).1 + 1 < e.o.sq then 120
  else if e.tag < (laP e.o.cl E).2 ∨ (E.length : Int) < e.tag then 121 else if fitsP (lnP E D e) e.o ≠ 0 then 123 else 0
theorem chk_zero {E : List Ed} {D : List OpE} {e : Ed} (h : chkP E D e = 0) : validP e.o = 0 ∧ e.o.kind ≠ 0 ∧ e.o.sq = (laP e.o.cl E).1 + 1 ∧ (laP e.o.cl E).2 ≤ e.tag ∧ e.tag ≤ E.length ∧ fitsP (lnP E D e) e.o = 0 := by
  unfold chkP at h
  by_cases h1 : validP e.o = 0
  · rw [if_neg (by omega)] at h
    split at h
    · omega
    · split at h
      · omega
      · split at h
        · omega
        · split at h
          · omega
          · split at h
            · omega
            · rename_i a1 a2 a3 a4 a5
              exact ⟨h1, a1, by omega, by omega, by omega, by omega⟩
  · rw [if_pos h1] at h
    exact absurd h h1

/-! ### Lengths and lines -/
theorem put_gr {d : List El} {o : OpE} (h : FitO d.length o) : ((putP d o).length : Int) = d.length + gr o := by
  obtain ⟨k, p, c, l, s⟩ := o
  rcases h with ⟨h1, -⟩ | ⟨h1, q, hq, hl⟩ | ⟨h1, q, hq, hl⟩
  · simp only at h1
    subst h1
    simp [putP_nop, gr]
  · simp only at h1 hq
    subst h1 hq
    rw [putP_ins, insert_len _ _ _ hl]
    simp [gr]
  · simp only at h1 hq
    subst h1 hq
    rw [putP_del, erase_len _ _ hl]
    simp [gr]
    omega
theorem run_gr : ∀ (l : List OpE) (d : List El), FitL d l → ((runP d l).length : Int) = d.length + grL l
  | [], d, _ => by simp [runP, grL_nil]
  | o :: l, d, h => by
    simp only [runP]
    rw [run_gr l _ h.2, put_gr h.1, grL_cons]
    omega
theorem gr_le (o : OpE) : -1 ≤ gr o ∧ gr o ≤ 1 := by unfold gr; split <;> (try split) <;> omega
theorem grL_le : ∀ l : List OpE, -(l.length : Int) ≤ grL l ∧ grL l ≤ l.length
  | [] => by simp [grL_nil]
  | o :: l => by
    have := grL_le l
    have := gr_le o
    rw [grL_cons, List.length_cons]
    omega
theorem fitL_app : ∀ (l m : List OpE) (d : List El), FitL d (l ++ m) ↔ FitL d l ∧ FitL (runP d l) m
  | [], m, d => by simp [FitL, runP]
  | o :: l, m, d => by
    simp only [List.cons_append, FitL, runP]
    rw [fitL_app l m]
    exact ⟨fun h => ⟨⟨h.1, h.2.1⟩, h.2.2⟩, fun h => ⟨h.1.1, h.1.2, h.2⟩⟩
/-- What becomes of an operation that is carried past others. -/
def Shp (o r : OpE) : Prop := (r.cl = o.cl ∧ r.sq = o.sq) ∧ ((r.kind = o.kind ∧ r.ch = o.ch) ∨ (r.kind = 0 ∧ r.pos = 0 ∧ r.ch = 0))
theorem shp_shift (a b : OpE) (f : Bool) : Shp a (shiftP a b f) := by
  unfold shiftP
  split
  · exact ⟨⟨rfl, rfl⟩, .inl ⟨rfl, rfl⟩⟩
  · split
    · exact ⟨⟨rfl, rfl⟩, .inr ⟨rfl, rfl, rfl⟩⟩
    · split
      · exact ⟨⟨rfl, rfl⟩, .inl ⟨rfl, rfl⟩⟩
      · exact ⟨⟨rfl, rfl⟩, .inl ⟨rfl, rfl⟩⟩
theorem Shp.next {a b : OpE} (h : Shp a b) (x : OpE) (f : Bool) : Shp a (shiftP b x f) := by
  rcases h with ⟨hw, hk | hk⟩
  · obtain ⟨k1, k2 | k2⟩ := shp_shift b x f
    · exact ⟨⟨k1.1.trans hw.1, k1.2.trans hw.2⟩, .inl ⟨k2.1.trans hk.1, k2.2.trans hk.2⟩⟩
    · exact ⟨⟨k1.1.trans hw.1, k1.2.trans hw.2⟩, .inr k2⟩
  · have e : shiftP b x f = b := by
      unfold shiftP
      rw [if_pos (fun h => by have := h.1; omega)]
    rw [e]
    exact ⟨hw, .inr hk⟩
theorem shp_through : ∀ (l : List OpE) (a b : OpE) (f : Bool), Shp a b → Shp a (throughP b l f).1
  | [], a, b, f, h => h
  | x :: l, a, b, f, h => shp_through l a _ f (h.next x (!f))
theorem shp_thrQ (l : List (Int × OpE)) (a : OpE) (f : Bool) : Shp a (thrQ a l f).1 := by
  rw [thrQ_1]
  exact shp_through _ a a f ⟨⟨rfl, rfl⟩, .inl ⟨rfl, rfl⟩⟩

theorem fits_fit {n : Nat} {o : OpE} (h : fitsP (n : Int) o = 0) : FitO n o ∧ validP o = 0 ∧ n ≤ 4096 := by
  unfold fitsP at h
  by_cases h1 : validP o = 0
  · rw [if_neg (by omega)] at h
    split at h
    · omega
    · split at h
      · omega
      · rename_i a1 a2
        obtain ⟨k1, k2, k3, k4⟩ := validP_zero h1
        have hin : inR (n : Int) 0 4096 = true := by
          cases hh : inR (n : Int) 0 4096 with
          | true => rfl
          | false => exact absurd (.inl hh) a1
        have hin : 0 ≤ (n : Int) ∧ (n : Int) ≤ 4096 := by simpa [inR] using hin
        refine ⟨?_, h1, by omega⟩
        rcases k1 with k1 | k1 | k1
        · refine .inl ⟨k1, k4 k1, ?_⟩
          unfold validP at h1
          split at h1
          · omega
          · split at h1
            · omega
            · split at h1
              · omega
              · rename_i b3
                rw [holdP, if_neg (by omega)] at b3
                simpa using b3
        · exact .inr (.inl ⟨k1, o.pos.toNat, by omega, by omega⟩)
        · exact .inr (.inr ⟨k1, o.pos.toNat, by omega, by omega⟩)
  · rw [if_pos h1] at h
    exact absurd h h1
/-- A done form that fits can be one. -/
theorem shp_valid {n : Nat} {o r : OpE} (ho : validP o = 0) (hs : Shp o r) (hf : FitO n r) (hn : n ≤ 4095) : validP r = 0 := by
  obtain ⟨⟨s1, s2⟩, s3⟩ := hs
  unfold validP at ho ⊢
  rw [s1, s2]
  split at ho
  · omega
  · split at ho
    · omega
    · split at ho
      · omega
      · split at ho
        · omega
        · rename_i a1 a2 a3 a4
          rw [if_neg (by rcases hf with h | h | h <;> omega), if_neg a2]
          have hh : holdP r.kind r.ch = true := by
            rcases s3 with ⟨e1, e2⟩ | ⟨e1, e2, e3⟩
            · rw [e1, e2]
              cases h : holdP o.kind o.ch with
              | true => rfl
              | false => exact absurd h a3
            · rw [e1, e3]
              rfl
          have hp : pointP r.kind r.pos = true := by
            unfold pointP
            rcases hf with ⟨h1, h2, h3⟩ | ⟨h1, q, h2, h3⟩ | ⟨h1, q, h2, h3⟩
            · rw [if_pos h1]
              simpa using h2
            · rw [if_neg (by omega)]
              simp [inR]
              omega
            · rw [if_neg (by omega)]
              simp [inR]
              omega
          rw [hh, hp]
          rfl
theorem fit_fits {n : Nat} {o : OpE} (hv : validP o = 0) (hf : FitO n o) (hn : n ≤ 4095) : fitsP (n : Int) o = 0 := by
  unfold fitsP
  rw [if_neg (by omega)]
  have hin : inR (n : Int) 0 4096 = true := by simp [inR]; omega
  rw [if_neg (fun h => h.elim (fun h => by rw [hin] at h; cases h) (fun h => by omega))]
  rw [if_neg]
  rcases hf with ⟨h1, h2, h3⟩ | ⟨h1, q, h2, h3⟩ | ⟨h1, q, h2, h3⟩ <;> omega

/-! ### How many there are -/
def cnP (c : Int) (E : List Ed) : Nat := (E.filter (fun e => decide (e.o.cl = c))).length
theorem cnP_snoc (c : Int) (E : List Ed) (e : Ed) : cnP c (E ++ [e]) = cnP c E + if e.o.cl = c then 1 else 0 := by
  unfold cnP
  rw [List.filter_append, List.length_append]
  congr 1
  by_cases h : e.o.cl = c
  · simp [h]
  · simp [h]
def smP (E : List Ed) : Nat → Nat
  | 0 => 0
  | k + 1 => smP E k + cnP ((k : Int) + 1) E
theorem smP_nil : ∀ k, smP [] k = 0
  | 0 => rfl
  | k + 1 => by simp [smP, smP_nil k, cnP]
theorem smP_snoc (E : List Ed) (e : Ed) : ∀ k : Nat, 1 ≤ e.o.cl → smP (E ++ [e]) k = smP E k + if e.o.cl ≤ k then 1 else 0
  | 0, h => by
    rw [if_neg (by omega)]
    rfl
  | k + 1, h => by
    simp only [smP]
    rw [smP_snoc E e k h, cnP_snoc]
    by_cases h1 : e.o.cl ≤ k
    · rw [if_pos h1, if_neg (by omega), if_pos (by omega)]
      omega
    · rw [if_neg h1]
      by_cases h2 : e.o.cl = (k : Int) + 1
      · rw [if_pos h2, if_pos (by omega)]
        omega
      · rw [if_neg h2, if_neg (by omega)]
        omega
theorem smP_le {E : List Ed} (h : ∀ c, cnP c E ≤ 64) : ∀ k, smP E k ≤ 64 * k
  | 0 => Nat.le_refl _
  | k + 1 => by
    have := smP_le h k
    have := h ((k : Int) + 1)
    simp only [smP]
    omega
theorem smP_lt {E : List Ed} (h : ∀ c, cnP c E ≤ 64) {c : Int} (hc : cnP c E < 64) (h1 : 1 ≤ c) : ∀ k : Nat, c ≤ k → smP E k < 64 * k
  | 0, hk => by omega
  | k + 1, hk => by
    simp only [smP]
    by_cases e : c = (k : Int) + 1
    · have := smP_le h k
      rw [← e]
      omega
    · have := smP_lt h hc h1 k (by omega)
      have := h ((k : Int) + 1)
      omega

/-! ### What is known of a book -/
structure BI (E : List Ed) (D : List OpE) : Prop where
  len : D.length = E.length
  sm : smP E 64 = E.length
  dval : ∀ d ∈ D, validP d = 0
  fit : FitL [] D
  cl : ∀ c, ∃ T : List El, FitL T ((quQ c E D).map (·.2)) ∧ runP T ((quQ c E D).map (·.2)) = runP [] D
  mks : ∀ c, ∀ x ∈ quQ c E D, 1 ≤ x.1 ∧ x.1 ≤ E.length
  qs : ∀ c, (quQ c E D).length ≤ E.length
  tag : ∀ c, TagOk 0 (evO c E D)
  inc : ∀ c, ((owns (evO c E D)).map (·.t)).Pairwise (· ≤ ·)
  own : ∀ c, ∀ p ∈ owns (evO c E D), 0 ≤ p.t ∧ p.t ≤ (laP c E).2
  seq : ∀ c, (laP c E).1 = cnP c E ∧ cnP c E ≤ 64 ∧ 0 ≤ (laP c E).2
theorem BI.nil : BI [] [] :=
  ⟨rfl, smP_nil 64, fun d hd => (by cases hd), trivial, fun c => ⟨[], trivial, rfl⟩, fun c x hx => (by cases hx), fun c => Nat.le_refl _, fun c => trivial, fun c => List.Pairwise.nil, fun c p hp => (by cases hp), fun c => ⟨rfl, Nat.zero_le _, Int.le_refl _⟩⟩
theorem owns_app : ∀ l m : List Ev, owns (l ++ m) = owns l ++ owns m
  | [], m => rfl
  | .own p :: l, m => by simp only [List.cons_append, owns]; rw [owns_app l m]
  | .oth r :: l, m => by simp only [List.cons_append, owns]; exact owns_app l m
theorem tagOk_app : ∀ (l m : List Ev) (k : Nat), TagOk k (l ++ m) ↔ TagOk k l ∧ TagOk (k + l.length) m
  | [], m, k => by simp [TagOk]
  | .own p :: l, m, k => by
    simp only [List.cons_append, TagOk, List.length_cons]
    rw [tagOk_app l m (k + 1), show k + 1 + l.length = k + (l.length + 1) by omega, and_assoc]
  | .oth r :: l, m, k => by
    simp only [List.cons_append, TagOk, List.length_cons]
    rw [tagOk_app l m (k + 1), show k + 1 + l.length = k + (l.length + 1) by omega]

/-- The edit that Check lets by: its text, how it goes past the queue. -/
theorem BI.past {E : List Ed} {D : List OpE} (h : BI E D) {e : Ed} (hc : chkP E D e = 0) :
    E.length ≤ 4095 ∧ FitO (runP [] D).length (dnP E D e) ∧ validP (dnP E D e) = 0 ∧ (runP [] D).length ≤ 4095 ∧ ∃ T : List El, FitL T ((thrQ e.o (dropQ (quQ e.o.cl E D) e.tag) true).2.map (·.2)) ∧ runP T ((thrQ e.o (dropQ (quQ e.o.cl E D) e.tag) true).2.map (·.2)) = putP (runP [] D) (dnP E D e) := by
  obtain ⟨v, k, sq, t1, t2, ft⟩ := chk_zero hc
  have hcl : 1 ≤ e.o.cl ∧ e.o.cl ≤ 64 ∧ 1 ≤ e.o.sq ∧ e.o.sq ≤ 64 := by
    unfold validP at v
    split at v
    · omega
    · split at v
      · omega
      · rename_i a
        simp [inR] at a
        omega
  have hR : E.length ≤ 4095 := by
    have h1 := (h.seq e.o.cl).1
    have h2 := smP_lt (fun c => (h.seq c).2.1) (c := e.o.cl) (by omega) hcl.1 64 (by omega)
    have h3 := h.sm
    omega
  have hS : ((runP [] D).length : Int) = grL D := by rw [run_gr D [] h.fit]; simp
  have hS2 : (runP [] D).length ≤ 4095 := by
    have := grL_le D
    have := h.len
    omega
  obtain ⟨T, hT1, hT2⟩ := h.cl e.o.cl
  have hsp : quQ e.o.cl E D = (quQ e.o.cl E D).takeWhile (fun x => decide (x.1 ≤ e.tag)) ++ dropQ (quQ e.o.cl E D) e.tag := (List.takeWhile_append_dropWhile ..).symm
  rw [hsp, List.map_append] at hT1 hT2
  rw [fitL_app] at hT1
  rw [runP_app] at hT2
  generalize runP T (((quQ e.o.cl E D).takeWhile (fun x => decide (x.1 ≤ e.tag))).map (·.2)) = T1 at hT1 hT2
  have hq : (dropQ (quQ e.o.cl E D) e.tag).length ≤ 4095 := by
    have h1 := congrArg List.length hsp
    have h2 := h.qs e.o.cl
    simp only [List.length_append] at h1
    omega
  have hlen : (T1.length : Int) = lnP E D e := by
    have h1 := run_gr _ _ hT1.2
    rw [hT2, hS] at h1
    unfold lnP
    omega
  rw [← hlen] at ft
  obtain ⟨f1, -, f3⟩ := fits_fit ft
  obtain ⟨g1, g2, g3⟩ := through_sq ((dropQ (quQ e.o.cl E D) e.tag).map (·.2)) T1 e.o true (by simp; omega) f1 hT1.2
  rw [hT2] at g1 g3
  rw [← thrQ_1] at g1 g3
  rw [← thrQ_2] at g2 g3
  exact ⟨hR, g1, shp_valid v (shp_thrQ _ _ _) g1 hS2, hS2, _, g2, g3⟩

theorem BI.add {E : List Ed} {D : List OpE} (h : BI E D) {e : Ed} (hc : chkP E D e = 0) : BI (E ++ [e]) (D ++ [dnP E D e]) := by
  obtain ⟨hR, g1, g2, hS, T, g3, g4⟩ := h.past hc
  obtain ⟨v, k, sq, t1, t2, ft⟩ := chk_zero hc
  have hcl : 1 ≤ e.o.cl ∧ e.o.cl ≤ 64 ∧ 1 ≤ e.o.sq ∧ e.o.sq ≤ 64 := by
    unfold validP at v
    split at v
    · omega
    · split at v
      · omega
      · rename_i a
        simp [inR] at a
        omega
  have hrun : runP [] (D ++ [dnP E D e]) = putP (runP [] D) (dnP E D e) := by rw [runP_app]; rfl
  refine ⟨by simp [h.len], ?_, fun d hd => ?_, ?_, fun c => ?_, fun c x hx => ?_, fun c => ?_, fun c => ?_, fun c => ?_, fun c p hp => ?_, fun c => ?_⟩
  · rw [smP_snoc _ _ _ hcl.1, h.sm, if_pos (by omega), List.length_append]
    rfl
  · rcases List.mem_append.1 hd with hd | hd
    · exact h.dval d hd
    · rw [List.mem_singleton.1 hd]
      exact g2
  · rw [fitL_app]
    exact ⟨h.fit, g1, trivial⟩
  · rw [hrun]
    by_cases e1 : e.o.cl = c
    · subst e1
      rw [quQ_own h.len]
      exact ⟨T, g3, g4⟩
    · rw [quQ_oth h.len e1, List.map_append]
      obtain ⟨T2, k1, k2⟩ := h.cl c
      refine ⟨T2, (fitL_app _ _ _).2 ⟨k1, ?_, trivial⟩, ?_⟩
      · rw [k2]
        exact g1
      · rw [runP_app, k2]
        rfl
  · rw [List.length_append, List.length_singleton]
    by_cases e1 : e.o.cl = c
    · subst e1
      rw [quQ_own h.len] at hx
      have := thrQ_all (p := fun m => 1 ≤ m ∧ m ≤ (E.length : Int)) (fun z hz => h.mks _ z (dropQ_mem hz)) x hx
      omega
    · rw [quQ_oth h.len e1] at hx
      rcases List.mem_append.1 hx with hx | hx
      · have := h.mks c x hx
        omega
      · rw [List.mem_singleton.1 hx]
        simp only
        omega
  · rw [List.length_append, List.length_singleton]
    by_cases e1 : e.o.cl = c
    · subst e1
      rw [quQ_own h.len, thrQ_len]
      have h1 := (List.dropWhile_sublist (fun x : Int × OpE => decide (x.1 ≤ e.tag)) (l := quQ e.o.cl E D)).length_le
      have h2 := h.qs e.o.cl
      unfold dropQ
      omega
    · rw [quQ_oth h.len e1, List.length_append, List.length_singleton]
      have := h.qs c
      omega
  · rw [evO_snoc _ _ _ _ _ h.len, tagOk_app, evO_len _ _ _ h.len]
    refine ⟨h.tag c, ?_⟩
    by_cases e1 : e.o.cl = c
    · rw [if_pos e1]
      exact ⟨by show e.tag ≤ _; omega, trivial⟩
    · rw [if_neg e1]
      trivial
  · rw [evO_snoc _ _ _ _ _ h.len, owns_app, List.map_append]
    by_cases e1 : e.o.cl = c
    · rw [if_pos e1]
      refine List.pairwise_append.2 ⟨h.inc c, by simp [owns], fun x hx y hy => ?_⟩
      obtain ⟨p, hp, rfl⟩ := List.mem_map.1 hx
      have := (h.own c p hp).2
      simp [owns] at hy
      subst hy
      rw [← e1] at this
      omega
    · rw [if_neg e1]
      simpa [owns] using h.inc c
  · rw [evO_snoc _ _ _ _ _ h.len, owns_app] at hp
    rw [laP_snoc]
    by_cases e1 : e.o.cl = c
    · rw [if_pos e1] at hp ⊢
      rcases List.mem_append.1 hp with hp | hp
      · have := h.own c p hp
        subst e1
        simp only
        omega
      · simp [owns] at hp
        subst hp
        have := (h.seq e.o.cl).2.2
        simp only
        omega
    · rw [if_neg e1] at hp ⊢
      simp [owns] at hp
      exact h.own c p hp
  · rw [laP_snoc, cnP_snoc]
    have h0 := h.seq c
    by_cases e1 : e.o.cl = c
    · subst e1
      rw [if_pos rfl, if_pos rfl]
      simp only
      omega
    · rw [if_neg e1, if_neg e1]
      exact h0

/-- The text behind all records. -/
theorem BI.bound {E : List Ed} {D : List OpE} (h : BI E D) : E.length ≤ 4096 := by
  have := smP_le (fun c => (h.seq c).2.1) 64
  have := h.sm
  omega

end Go.Proofs.YtilidolbplglcaaGreatDoor

/-! Bt -/
namespace Go.Proofs.YtilidolbplglcaaGreatDoor
open Go.RowKit
set_option linter.unusedVariables false

/-- The done forms are those of the queue. -/
def DnOk : Nat → List (Int × OpE) → List Ev → List OpE → Prop
  | _, _, [], _ => True
  | k, q, .own p :: l, d :: D => d = (thrQ p.o (dropQ q p.t) true).1 ∧ DnOk (k + 1) (thrQ p.o (dropQ q p.t) true).2 l D
  | k, q, .oth r :: l, d :: D => d = r ∧ DnOk (k + 1) (q ++ [((k : Int) + 1, r)]) l D
  | _, _, _ :: _, [] => False
theorem dnOk_own (p : Pc) (d : OpE) (l : List Ev) : ∀ (D : List OpE) (k : Nat) (q : List (Int × OpE)), D.length = l.length → DnOk k q l D → d = (thrQ p.o (dropQ (srvQ k q l) p.t) true).1 → DnOk k q (l ++ [.own p]) (D ++ [d]) := by
  induction l with
  | nil =>
    intro D k q hl _ h
    cases D with
    | nil => exact ⟨h, trivial⟩
    | cons y D => simp at hl
  | cons x l ih =>
    intro D k q hl h hd
    cases D with
    | nil => simp at hl
    | cons y D =>
      cases x with
      | own x => exact ⟨h.1, ih D _ _ (by simpa using hl) h.2 hd⟩
      | oth x => exact ⟨h.1, ih D _ _ (by simpa using hl) h.2 hd⟩
theorem dnOk_oth (d : OpE) (l : List Ev) : ∀ (D : List OpE) (k : Nat) (q : List (Int × OpE)), D.length = l.length → DnOk k q l D → DnOk k q (l ++ [.oth d]) (D ++ [d]) := by
  induction l with
  | nil =>
    intro D k q hl _
    cases D with
    | nil => exact ⟨rfl, trivial⟩
    | cons y D => simp at hl
  | cons x l ih =>
    intro D k q hl h
    cases D with
    | nil => simp at hl
    | cons y D =>
      cases x with
      | own x => exact ⟨h.1, ih D _ _ (by simpa using hl) h.2⟩
      | oth x => exact ⟨h.1, ih D _ _ (by simpa using hl) h.2⟩
theorem srvN_gr : ∀ (l : List Ev) (D : List OpE) (k : Nat) (q : List (Int × OpE)) (N : Int), D.length = l.length → DnOk k q l D → srvN k q N l = N + grL D
  | [], [], k, q, N, _, _ => by simp [srvN, grL_nil]
  | .own p :: l, d :: D, k, q, N, hl, h => by
    simp only [srvN]
    rw [srvN_gr l D _ _ _ (by simpa using hl) h.2, ← h.1, grL_cons]
    omega
  | .oth r :: l, d :: D, k, q, N, hl, h => by
    simp only [srvN]
    rw [srvN_gr l D _ _ _ (by simpa using hl) h.2, ← h.1, grL_cons]
    omega

/-- The length that the document tells: the lengths behind each record by the done forms. -/
def lifeX : Nat → List Pc → List OpE → Int → Int → List Ev → List OpE → Int
  | k, O, F, N, n, .own _ :: l, d :: D => lifeX (k + 1) (mkF k O F).1 ((mkF k O F).2.drop 1) (N + gr d) (mkN k O F N n) l D
  | k, O, F, N, n, .oth r :: l, d :: D => lifeX (k + 1) (mkF k O F).1 (throughP r (mkF k O F).2 false).2 (N + gr d) (mkN k O F N n) l D
  | k, O, F, N, n, _, _ => mkN k O F N n

theorem lifeX_eq (e : Pc) (l : List Ev) : ∀ (D : List OpE) (k : Nat) (q : List (Int × OpE)) (W O : List Pc) (F : List OpE) (N n : Int), Par true q W F → (∀ x ∈ q, x.1 ≤ k) → (∀ p ∈ W, p.t ≤ k) → (∀ p ∈ O, (k : Int) ≤ p.t) → (O.map (·.t)).Pairwise (· ≤ ·) →
    W ++ O = owns l ++ [e] → TagOk k l → D.length = l.length → DnOk k q l D → lifeX k O F N n l D = lifeN k O F N n l := by
  induction l with
  | nil =>
    intro D k q W O F N n h hq hW hO hs hown _ hl _
    simp only [lifeX, lifeN]
  | cons ev l ih =>
    intro D k q W O F N n h hq hW hO hs hown htag hl hdn
    obtain ⟨M, h1, h2, h3, h4, h5⟩ := mkF_par (k := (k : Int)) hq O W F h hO hs hW
    have hown' : (W ++ M) ++ (mkF k O F).1 = owns (ev :: l) ++ [e] := by rw [← hown, List.append_assoc, ← h1]
    cases D with
    | nil => simp at hl
    | cons d D =>
      have hl' : D.length = l.length := by simpa using hl
      cases ev with
      | own p =>
        simp only [lifeX, lifeN, owns, TagOk, DnOk, List.cons_append, List.length_cons] at *
        cases hWM : W ++ M with
        | nil =>
          exfalso
          rw [hWM, List.nil_append] at hown'
          have := h4 p (by rw [hown']; simp)
          have := htag.1
          omega
        | cons x W' =>
          rw [hWM, List.cons_append] at hown'
          injection hown' with hx hr
          subst hx
          rw [hWM] at h2 h3
          cases hB : (mkF k O F).2 with
          | nil => rw [hB] at h2; exact h2.elim
          | cons b B =>
            rw [hB] at h2
            have hd : gr d = grL ((b :: B).take 1) := by
              rw [hdn.1, h2.1]
              simp [grL]
            simp only [List.drop_succ_cons, List.drop_zero]
            rw [hd]
            refine ih D (k + 1) _ W' _ B _ _ h2.2 (fun y hy => ?_) (fun y hy => ?_) (fun y hy => ?_) h5 hr htag.2 hl' hdn.2
            · have := thrQ_all (p := fun m => m ≤ (k : Int)) (fun z hz => hq z (dropQ_mem hz)) y hy
              omega
            · have := h3 y (by simp [hy])
              omega
            · have := h4 y hy
              omega
      | oth r =>
        simp only [lifeX, lifeN, owns, TagOk, DnOk, List.length_cons] at *
        rw [hdn.1]
        refine ih D (k + 1) _ (W ++ M) _ _ _ _ (Par.more (W ++ M) q _ ((k : Int) + 1) r (fun y hy => by have := h3 y hy; omega) h2) (fun y hy => ?_) (fun y hy => ?_) (fun y hy => ?_) h5 hown' htag hl' hdn.2
        · rcases List.mem_append.1 hy with hy | hy
          · have := hq y hy
            omega
          · simp at hy
            subst hy
            simp
        · have := h3 y hy
          omega
        · have := h4 y hy
          omega

/-- A book whose done forms are those of its queues. -/
structure BJ (E : List Ed) (D : List OpE) : Prop where
  b : BI E D
  d : ∀ c, DnOk 0 [] (evO c E D) D
theorem BJ.nil : BJ [] [] := ⟨BI.nil, fun c => trivial⟩
theorem BJ.add {E : List Ed} {D : List OpE} (h : BJ E D) {e : Ed} (hc : chkP E D e = 0) : BJ (E ++ [e]) (D ++ [dnP E D e]) := by
  refine ⟨h.b.add hc, fun c => ?_⟩
  have hl : D.length = (evO c E D).length := by rw [evO_len _ _ _ h.b.len]; exact h.b.len
  rw [evO_snoc _ _ _ _ _ h.b.len]
  by_cases e1 : e.o.cl = c
  · rw [if_pos e1]
    subst e1
    exact dnOk_own _ _ _ _ _ _ hl (h.d _) rfl
  · rw [if_neg e1]
    exact dnOk_oth _ _ _ _ _ hl (h.d c)

/-- What the document has of the next edit. -/
theorem life_all {E : List Ed} {D : List OpE} (h : BJ E D) {e : Ed} (t1 : (laP e.o.cl E).2 ≤ e.tag) (t2 : e.tag ≤ E.length) :
    lifeF 0 (owns (evO e.o.cl E D) ++ [⟨0, e.tag, e.o⟩]) [] (evO e.o.cl E D) = [dnP E D e] ∧ lifeX 0 (owns (evO e.o.cl E D) ++ [⟨0, e.tag, e.o⟩]) [] 0 0 (evO e.o.cl E D) D = lnP E D e := by
  have hl : D.length = (evO e.o.cl E D).length := by rw [evO_len _ _ _ h.b.len]; exact h.b.len
  have h0 : ∀ p ∈ owns (evO e.o.cl E D) ++ [(⟨0, e.tag, e.o⟩ : Pc)], ((0 : Nat) : Int) ≤ p.t := fun p hp => by
    have h3 := (h.b.seq e.o.cl).2.2
    rcases List.mem_append.1 hp with hp | hp
    · exact (h.b.own e.o.cl p hp).1
    · rw [List.mem_singleton.1 hp]
      show (0 : Int) ≤ e.tag
      omega
  have hs : ((owns (evO e.o.cl E D) ++ [(⟨0, e.tag, e.o⟩ : Pc)]).map (·.t)).Pairwise (· ≤ ·) := by
    rw [List.map_append]
    refine List.pairwise_append.2 ⟨h.b.inc _, by simp, fun x hx y hy => ?_⟩
    obtain ⟨p, hp, rfl⟩ := List.mem_map.1 hx
    have := (h.b.own e.o.cl p hp).2
    simp at hy
    subst hy
    omega
  have hle : (⟨0, e.tag, e.o⟩ : Pc).t ≤ ((0 : Nat) : Int) + ((evO e.o.cl E D).length : Nat) := by
    rw [evO_len _ _ _ h.b.len]
    show e.tag ≤ _
    omega
  have q1 := life_queue ⟨0, e.tag, e.o⟩ (evO e.o.cl E D) 0 [] [] _ [] trivial (fun x hx => by cases hx) (fun x hx => by cases hx) h0 hs rfl (h.b.tag _) hle
  have q2 := life_len ⟨0, e.tag, e.o⟩ (evO e.o.cl E D) 0 [] [] (owns (evO e.o.cl E D)) [] 0 0 trivial (fun x hx => by cases hx) (fun x hx => by cases hx) h0 hs rfl (h.b.tag _) hle
  have q3 := lifeX_eq ⟨0, e.tag, e.o⟩ (evO e.o.cl E D) D 0 [] [] _ [] 0 0 trivial (fun x hx => by cases hx) (fun x hx => by cases hx) h0 hs rfl (h.b.tag _) hl (h.d _)
  have q4 := srvN_gr (evO e.o.cl E D) D 0 [] 0 hl (h.d _)
  refine ⟨q1, ?_⟩
  rw [q3]
  have hq : srvQ 0 [] (evO e.o.cl E D) = quQ e.o.cl E D := rfl
  rw [hq, q4] at q2
  show _ = grL D - grL ((dropQ (quQ e.o.cl E D) e.tag).map (·.2))
  have q5 : (⟨0, e.tag, e.o⟩ : Pc).t = e.tag := rfl
  rw [q5] at q2
  omega

/-- Replay, by definition. -/
def repP : List Ed → List Ed → List OpE → Nat → List OpE × Int × Int
  | [], E, D, k => (D, 0, -1)
  | e :: l, E, D, k => if chkP E D e = 0 then repP l (E ++ [e]) (D ++ [dnP E D e]) (k + 1) else (D, chkP E D e, k)

end Go.Proofs.YtilidolbplglcaaGreatDoor
