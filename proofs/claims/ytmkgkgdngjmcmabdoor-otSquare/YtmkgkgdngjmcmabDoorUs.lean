/-
  What stays: what operations mean, without memory.
-/
import Derived.Test.YtmkgkgdngjmcmabDoorUm
namespace Go.Proofs.YtmkgkgdngjmcmabDoor
set_option linter.unusedVariables false

inductive Mn where
  | ins (x : El)
  | del (y : El)

/-- What an operation means in the text d. -/
def MeanO (d : List El) (o : OpE) : Mn → Prop
  | .ins x => (o.kind = 1 ∧ ∃ p : Nat, o.pos = p ∧ p ≤ d.length) ∧ o.el = x ∧ x ∉ d
  | .del y => ((o.kind = 0 ∧ o.pos = 0 ∧ o.ch = 0) ∧ y ∉ d) ∨ ∃ L R, d = L ++ y :: R ∧ o.kind = 2 ∧ o.pos = (L.length : Int) ∧ y ∉ L ∧ y ∉ R

theorem MeanO.fit {d : List El} {o : OpE} {m : Mn} (h : MeanO d o m) : FitO d.length o := by
  cases m with
  | ins x => exact .inr (.inl h.1)
  | del y =>
    rcases h with ⟨h, -⟩ | ⟨L, R, rfl, hk, hp, -, -⟩
    · exact .inl h
    · exact .inr (.inr ⟨hk, L.length, hp, by simp⟩)

def Mn.act (m : Mn) (z : El) (P : Prop) : Prop := match m with
  | .ins x => z = x ∨ P
  | .del y => z ≠ y ∧ P

theorem MeanO.put {d : List El} {o : OpE} {m : Mn} (h : MeanO d o m) : (∃ x, m = .ins x ∧ ∃ p, p ≤ d.length ∧ putP d o = d.insertIdx p x ∧ x ∉ d) ∨ (∃ y, m = .del y ∧ ((y ∉ d ∧ putP d o = d) ∨ ∃ L R, d = L ++ y :: R ∧ putP d o = L ++ R ∧ y ∉ L ∧ y ∉ R)) := by
  obtain ⟨k, p, c, l, s⟩ := o
  cases m with
  | ins x =>
    obtain ⟨⟨hk, q, hp, hq⟩, hx, hm⟩ := h
    simp only at hk hp
    subst hk hp
    exact .inl ⟨x, rfl, q, hq, by rw [putP_ins]; exact congrArg _ hx, hm⟩
  | del y =>
    refine .inr ⟨y, rfl, ?_⟩
    rcases h with ⟨⟨hk, -, -⟩, hm⟩ | ⟨L, R, hd, hk, hp, hL, hR⟩
    · simp only at hk
      subst hk
      exact .inl ⟨hm, putP_nop _ _ _ _ _⟩
    · simp only at hk hp
      subst hk hp
      refine .inr ⟨L, R, hd, ?_, hL, hR⟩
      rw [putP_del, hd, List.eraseIdx_append_of_length_le (Nat.le_refl _), Nat.sub_self, List.eraseIdx_cons_zero]

theorem MeanO.mem {d : List El} {o : OpE} {m : Mn} (h : MeanO d o m) (z : El) : z ∈ putP d o ↔ m.act z (z ∈ d) := by
  rcases h.put with ⟨x, rfl, p, hp, e, hx⟩ | ⟨y, rfl, ⟨hy, e⟩ | ⟨L, R, rfl, e, hL, hR⟩⟩
  · rw [e, List.mem_insertIdx hp]; rfl
  · rw [e]
    exact ⟨fun h => ⟨fun e => hy (e ▸ h), h⟩, fun h => h.2⟩
  · rw [e]
    simp only [Mn.act, List.mem_append, List.mem_cons]
    constructor
    · rintro (h | h)
      · exact ⟨fun e => hL (e ▸ h), .inl h⟩
      · exact ⟨fun e => hR (e ▸ h), .inr (.inr h)⟩
    · rintro ⟨h, h1 | h1 | h1⟩
      · exact .inl h1
      · exact absurd h1 h
      · exact .inr h1

theorem nodup_ins {d : List El} {p : Nat} {x : El} (h : d.Nodup) (hx : x ∉ d) (hp : p ≤ d.length) : (d.insertIdx p x).Nodup := by
  have := ins_left x d [] p hp
  rw [List.append_nil, List.append_nil] at this
  rw [this]
  refine (List.perm_middle.nodup_iff).mpr ?_
  rw [List.take_append_drop]
  exact List.nodup_cons.mpr ⟨hx, h⟩

theorem MeanO.nodup {d : List El} {o : OpE} {m : Mn} (h : MeanO d o m) (hd : d.Nodup) : (putP d o).Nodup := by
  rcases h.put with ⟨x, rfl, p, hp, e, hx⟩ | ⟨y, rfl, ⟨hy, e⟩ | ⟨L, R, rfl, e, hL, hR⟩⟩
  · rw [e]; exact nodup_ins hd hx hp
  · rw [e]; exact hd
  · rw [e]
    exact hd.sublist (List.Sublist.append_left (List.sublist_cons_self _ _) _)

/-- The two do not meet in one element. -/
def Cpt : Mn → Mn → Prop
  | .ins x, .ins y => x ≠ y
  | .ins x, .del y => x ≠ y
  | .del x, .ins y => x ≠ y
  | .del _, .del _ => True

theorem shift_ins {a b : OpE} {f : Bool} (h : a.kind = 1) : (shiftP a b f).kind = 1 ∧ (shiftP a b f).el = a.el := by
  unfold shiftP
  split
  · exact ⟨h, rfl⟩
  · split
    · omega
    · split
      · exact ⟨h, rfl⟩
      · exact ⟨h, rfl⟩

theorem shift_nop {a b : OpE} {f : Bool} (h : a.kind = 0) : shiftP a b f = a := by
  unfold shiftP
  rw [if_pos (by omega)]

theorem fit_shift {d : List El} {a b : OpE} (f : Bool) (hn : d.length < 1000000) (ha : FitO d.length a) (hb : FitO d.length b) : FitO (putP d b).length (shiftP a b f) := by
  cases f
  · exact (square d b a hn hb ha).fb
  · exact (square d a b hn ha hb).fa

theorem del_mean {y : El} {e : List El} {a b : OpE} (f : Bool) (h : MeanO e a (.del y)) (hb : FitO e.length b) (hx : b.kind = 1 → y ≠ b.el) (hn : e.length < 1000000) : MeanO (putP e b) (shiftP a b f) (.del y) := by
  obtain ⟨k, q, ch, l, s⟩ := b
  rcases h with ⟨h0, hm⟩ | ⟨L, R, rfl, hk, hp, hL, hR⟩
  · rw [shift_nop h0.1]
    refine .inl ⟨h0, ?_⟩
    rcases hb with ⟨h0, h1, h3⟩ | ⟨h0, r, h1, h3⟩ | ⟨h0, r, h1, h3⟩
    · simp only at h0; subst h0; rw [putP_nop]; exact hm
    · have hx := hx h0
      simp only at h0 h1; subst h0 h1; rw [putP_ins, List.mem_insertIdx h3]
      rintro (h | h)
      · exact hx h
      · exact hm h
    · simp only at h0 h1; subst h0 h1; rw [putP_del]
      exact fun h => hm (List.mem_of_mem_eraseIdx h)
  · obtain ⟨ak, ap, ac, al, sa⟩ := a
    simp only at hk hp
    subst hk hp
    rw [List.length_append, List.length_cons] at hn hb
    rcases hb with ⟨h0, h1, h3⟩ | ⟨h0, r, h1, h3⟩ | ⟨h0, r, h1, h3⟩
    · simp only at h0 h1 h3
      subst h0 h1 h3
      rw [putP_nop]
      exact .inr ⟨L, R, rfl, by simp [shiftP], by simp [shiftP], hL, hR⟩
    · have hx := hx h0
      simp only at h0 h1 h3
      subst h0 h1
      rw [putP_ins]
      by_cases hr : r ≤ L.length
      · rw [ins_left _ _ _ _ hr]
        have hl : (L.take r ++ ((ch, l, s) : El) :: L.drop r).length = L.length + 1 := by
          rw [List.length_append, List.length_take, List.length_cons, List.length_drop]; omega
        have hw := wrap_up (n := L.length) (by omega)
        have e1 : shiftP ⟨2, (L.length : Int), ac, al, sa⟩ ⟨1, r, ch, l, s⟩ f = ⟨2, (L.length : Int) + 1, ac, al, sa⟩ := by
          simp [shiftP, hw]; omega
        rw [e1]
        refine .inr ⟨_, R, rfl, rfl, ?_, ?_, hR⟩
        · rw [hl]; rfl
        · intro h
          rcases mem_mid h with h | h
          · exact hx h
          · exact hL h
      · have h5 : L ++ y :: R = (L ++ [y]) ++ R := by simp
        have hl : (L ++ [y]).length = L.length + 1 := by simp
        rw [h5, ins_right _ _ _ _ (by omega) (by omega), List.append_assoc, List.singleton_append]
        have e1 : shiftP ⟨2, (L.length : Int), ac, al, sa⟩ ⟨1, r, ch, l, s⟩ f = ⟨2, (L.length : Int), ac, al, sa⟩ := by
          simp [shiftP]; omega
        rw [e1]
        refine .inr ⟨L, _, rfl, rfl, rfl, hL, ?_⟩
        intro h
        rcases mem_mid h with h | h
        · exact hx h
        · exact hR h
    · simp only at h0 h1 h3
      subst h0 h1
      rw [putP_del]
      by_cases hr : r < L.length
      · rw [List.eraseIdx_append_of_lt_length hr]
        have hw := wrap_dn (n := L.length) (by omega)
        have : ¬ (L.length : Int) = r := by omega
        have e1 : shiftP ⟨2, (L.length : Int), ac, al, sa⟩ ⟨2, r, ch, l, s⟩ f = ⟨2, (L.length : Int) - 1, ac, al, sa⟩ := by
          simp [shiftP, hr, hw, this]
        rw [e1]
        refine .inr ⟨_, R, rfl, rfl, ?_, fun h => hL (List.mem_of_mem_eraseIdx h), hR⟩
        rw [erase_len _ _ hr]
        show (L.length : Int) - 1 = _
        omega
      · rw [List.eraseIdx_append_of_length_le (by omega)]
        by_cases he : r = L.length
        · subst he
          rw [Nat.sub_self, List.eraseIdx_cons_zero]
          have e1 : shiftP ⟨2, (L.length : Int), ac, al, sa⟩ ⟨2, (L.length : Int), ch, l, s⟩ f = ⟨0, 0, 0, al, sa⟩ := by simp [shiftP]
          rw [e1]
          refine .inl ⟨⟨rfl, rfl, rfl⟩, fun h => ?_⟩
          rcases List.mem_append.mp h with h | h
          · exact hL h
          · exact hR h
        · obtain ⟨t, ht⟩ : ∃ t, r - L.length = t + 1 := ⟨r - L.length - 1, by omega⟩
          rw [ht, List.eraseIdx_cons_succ]
          have : ¬ (L.length : Int) = r := by omega
          have e1 : shiftP ⟨2, (L.length : Int), ac, al, sa⟩ ⟨2, r, ch, l, s⟩ f = ⟨2, (L.length : Int), ac, al, sa⟩ := by
            simp [shiftP, this]; omega
          rw [e1]
          exact .inr ⟨L, _, rfl, rfl, rfl, hL, fun h => hR (List.mem_of_mem_eraseIdx h)⟩

theorem mean_step {d : List El} {a b : OpE} {ma mb : Mn} (f : Bool) (ha : MeanO d a ma) (hb : MeanO d b mb) (hc : Cpt ma mb) (hn : d.length < 1000000) : MeanO (putP d b) (shiftP a b f) ma := by
  cases ma with
  | ins x =>
    have hf := fit_shift f hn ha.fit hb.fit
    have hs := shift_ins (b := b) (f := f) ha.1.1
    refine ⟨?_, hs.2.trans ha.2.1, ?_⟩
    · rcases hf with h | h | h
      · exact absurd (hs.1.symm.trans h.1) (by decide)
      · exact h
      · exact absurd (hs.1.symm.trans h.1) (by decide)
    · rw [hb.mem]
      cases mb with
      | ins y => exact fun h => h.elim (fun h => hc h) ha.2.2
      | del y => exact fun h => ha.2.2 h.2
  | del y =>
    refine del_mean f ha hb.fit (fun h1 => ?_) hn
    cases mb with
    | ins x => rw [hb.2.1]; exact hc
    | del x =>
      rcases hb with ⟨h, -⟩ | ⟨_, _, _, h, _⟩
      · exact absurd (h1.symm.trans h.1) (by decide)
      · exact absurd (h1.symm.trans h) (by decide)

def Means : List El → List OpE → List Mn → Prop
  | _, [], [] => True
  | d, o :: l, m :: ms => MeanO d o m ∧ Means (putP d o) l ms
  | _, _, _ => False

def actL : List Mn → El → Prop → Prop
  | [], _, P => P
  | m :: ms, z, P => actL ms z (m.act z P)

theorem Means.fit : ∀ {l : List OpE} {d : List El} {ms : List Mn}, Means d l ms → FitL d l
  | [], _, [], _ => trivial
  | o :: l, d, m :: ms, h => ⟨h.1.fit, Means.fit h.2⟩
  | [], _, _ :: _, h => h.elim
  | _ :: _, _, [], h => h.elim

theorem Means.mem : ∀ {l : List OpE} {d : List El} {ms : List Mn} (z : El), Means d l ms → (z ∈ runP d l ↔ actL ms z (z ∈ d))
  | [], _, [], _, _ => Iff.rfl
  | o :: l, d, m :: ms, z, h => by
    rw [runP, Means.mem z h.2, actL, propext (h.1.mem z)]
  | [], _, _ :: _, _, h => h.elim
  | _ :: _, _, [], _, h => h.elim

theorem Means.nodup : ∀ {l : List OpE} {d : List El} {ms : List Mn}, Means d l ms → d.Nodup → (runP d l).Nodup
  | [], _, [], _, h => h
  | o :: l, d, m :: ms, h, hd => by
    rw [runP]
    exact Means.nodup h.2 (h.1.nodup hd)
  | [], _, _ :: _, h, _ => h.elim
  | _ :: _, _, [], h, _ => h.elim

theorem actL_mono : ∀ (ms : List Mn) (z : El) {P Q : Prop}, (P → Q) → actL ms z P → actL ms z Q
  | [], _, _, _, h, hp => h hp
  | .ins x :: ms, z, _, _, h, hp => actL_mono ms z (fun k => k.elim .inl (fun k => .inr (h k))) hp
  | .del y :: ms, z, _, _, h, hp => actL_mono ms z (fun k => ⟨k.1, h k.2⟩) hp

theorem actL_none : ∀ (ms : List Mn) (z : El) {P : Prop}, (∀ m ∈ ms, ∀ x, m = .ins x → z ≠ x) → actL ms z P → P
  | [], _, _, _, hp => hp
  | .ins x :: ms, z, _, h, hp => by
    rcases actL_none ms z (fun m hm => h m (List.mem_cons_of_mem _ hm)) hp with k | k
    · exact absurd k (h _ List.mem_cons_self x rfl)
    · exact k
  | .del y :: ms, z, _, h, hp => (actL_none ms z (fun m hm => h m (List.mem_cons_of_mem _ hm)) hp).2

theorem thr_mean (l : List OpE) : ∀ (d : List El) (op : OpE) (f : Bool) (ms : List Mn) (m : Mn), MeanO d op m → Means d l ms → (∀ m' ∈ ms, Cpt m m' ∧ Cpt m' m) → d.length + l.length + 1 < 1000000 →
    MeanO (runP d l) (throughP op l f).1 m ∧ Means (putP d op) (throughP op l f).2 ms := by
  induction l with
  | nil =>
    intro d op f ms m h1 h2 _ _
    cases ms with
    | nil => exact ⟨h1, trivial⟩
    | cons _ _ => exact h2.elim
  | cons x l ih =>
    intro d op f ms m h1 h2 hc hn
    cases ms with
    | nil => exact h2.elim
    | cons mx ms =>
      simp only [List.length_cons] at hn
      have hx := putP_len d x h2.1.fit
      have hcx := hc mx List.mem_cons_self
      have hs : putP (putP d op) (shiftP x op f) = putP (putP d x) (shiftP op x (!f)) := by
        cases f
        · exact (square d op x (by omega) h1.fit h2.1.fit).eq
        · exact (square d x op (by omega) h2.1.fit h1.fit).eq.symm
      obtain ⟨g1, g2⟩ := ih (putP d x) (shiftP op x (!f)) f ms m (mean_step _ h1 h2.1 hcx.1 (by omega)) h2.2 (fun m' hm => hc m' (List.mem_cons_of_mem _ hm)) (by omega)
      simp only [throughP, runP, Means]
      rw [← hs] at g2
      exact ⟨g1, mean_step _ h2.1 h1 hcx.2 (by omega), g2⟩

theorem weave_mean (bs : List OpE) : ∀ (d : List El) (xs : List OpE) (ms ns : List Mn), Means d xs ms → Means d bs ns → (∀ m ∈ ms, ∀ n ∈ ns, Cpt m n ∧ Cpt n m) → d.length + xs.length + bs.length + 1 < 1000000 →
    Means (runP d bs) (weaveP xs bs).1 ms ∧ Means (runP d xs) (weaveP xs bs).2 ns := by
  induction bs with
  | nil =>
    intro d xs ms ns h1 h2 _ _
    cases ns with
    | nil => exact ⟨h1, trivial⟩
    | cons _ _ => exact h2.elim
  | cons b bs ih =>
    intro d xs ms ns h1 h2 hc hn
    cases ns with
    | nil => exact h2.elim
    | cons n ns =>
      simp only [List.length_cons] at hn
      have hl := putP_len d b h2.1.fit
      obtain ⟨g1, g2⟩ := thr_mean xs d b true ms n h2.1 h1 (fun m hm => ⟨(hc m hm n List.mem_cons_self).2, (hc m hm n List.mem_cons_self).1⟩) (by omega)
      obtain ⟨_, _, h3⟩ := through_sq xs d b true (by omega) h2.1.fit h1.fit
      obtain ⟨k1, k2⟩ := ih (putP d b) (throughP b xs true).2 ms ns g2 h2.2 (fun m hm n hn => hc m hm n (List.mem_cons_of_mem _ hn)) (by rw [throughP_len]; omega)
      simp only [weaveP, runP, Means]
      rw [h3] at k2
      exact ⟨k1, g1, k2⟩

/-- What a client's operations mean: it puts in its own elements, it takes away the text's or its own. -/
def MnC (cl : Int) : Mn → Prop
  | .ins x => x.2.1 = cl
  | .del y => y.2.1 = 1 ∨ y.2.1 = cl

theorem split_at {d : List El} {p : Nat} (hp : p < d.length) (hd : d.Nodup) : d = d.take p ++ d[p] :: d.drop (p + 1) ∧ d[p] ∉ d.take p ∧ d[p] ∉ d.drop (p + 1) := by
  have e : d = d.take p ++ d[p] :: d.drop (p + 1) := by rw [← List.drop_eq_getElem_cons hp, List.take_append_drop]
  refine ⟨e, ?_⟩
  have h := hd
  rw [e] at h
  have h2 := List.nodup_cons.mp ((List.perm_middle.nodup_iff).mp h)
  exact ⟨fun k => h2.1 (List.mem_append_left _ k), fun k => h2.1 (List.mem_append_right _ k)⟩

theorem line_means (cl : Int) : ∀ (L : List OpE) (e : List El) (k : Nat), FitL e L → (∀ i (h : i < L.length), (L[i].kind = 1 ∨ L[i].kind = 2) ∧ L[i].cl = cl ∧ L[i].sq = ((k + i : Nat) : Int) + 1) → e.Nodup → (∀ z ∈ e, z.2.1 = 1 ∨ z.2.1 = cl) → (∀ z ∈ e, z.2.1 = cl → z.2.2 ≤ (k : Int)) →
    ∃ ms, Means e L ms ∧ ∀ m ∈ ms, MnC cl m
  | [], e, k, _, _, _, _, _ => ⟨[], trivial, fun m h => by cases h⟩
  | o :: L, e, k, hF, hL, hN, h1, h2 => by
    obtain ⟨hk, hc, hs⟩ := hL 0 (by simp)
    simp only [List.getElem_cons_zero, Nat.add_zero] at hk hc hs
    have hM : ∃ m, MeanO e o m ∧ MnC cl m := by
      rcases hF.1 with ⟨h0, _⟩ | ⟨h0, p, hp, hl⟩ | ⟨h0, p, hp, hl⟩
      · omega
      · refine ⟨.ins o.el, ⟨⟨h0, p, hp, hl⟩, rfl, fun h => ?_⟩, hc⟩
        have : o.sq ≤ (k : Int) := h2 _ h hc
        omega
      · obtain ⟨e1, e2, e3⟩ := split_at hl hN
        refine ⟨.del e[p], .inr ⟨_, _, e1, h0, ?_, e2, e3⟩, h1 _ (List.getElem_mem hl)⟩
        rw [hp, List.length_take, Nat.min_eq_left (by omega)]
    obtain ⟨m, hm, hmc⟩ := hM
    have hz : ∀ z ∈ putP e o, z ∈ e ∨ (z.2.1 = cl ∧ z.2.2 ≤ ((k + 1 : Nat) : Int)) := by
      intro z hz
      rcases hm.put with ⟨x, rfl, p, hp, ee, hx⟩ | ⟨y, rfl, ⟨hy, ee⟩ | ⟨A, B, rfl, ee, _⟩⟩
      · rcases (hm.mem z).mp hz with rfl | h
        · refine .inr ⟨hmc, ?_⟩
          have := hm.2.1
          rw [← this]
          show o.sq ≤ _
          omega
        · exact .inl h
      · exact .inl ((hm.mem z).mp hz).2
      · exact .inl ((hm.mem z).mp hz).2
    obtain ⟨ms, g1, g2⟩ := line_means cl L (putP e o) (k + 1) hF.2 (fun i hi => by
      have := hL (i + 1) (by simp; omega)
      simp only [List.getElem_cons_succ] at this
      rw [show k + 1 + i = k + (i + 1) from by omega]
      exact this) (hm.nodup hN) (fun z h => by
      rcases hz z h with h | h
      · exact h1 z h
      · exact .inr h.1) (fun z h hc => by
      rcases hz z h with h | h
      · have := h2 z h hc; omega
      · exact h.2)
    exact ⟨m :: ms, ⟨hm, g1⟩, fun m' h => by
      rcases List.mem_cons.mp h with rfl | h
      · exact hmc
      · exact g2 m' h⟩

theorem cpt23 {m n : Mn} (h1 : MnC 2 m) (h2 : MnC 3 n) : Cpt m n ∧ Cpt n m := by
  cases m <;> cases n <;> simp only [MnC] at h1 h2
  · exact ⟨fun e => by rw [e, h2] at h1; omega, fun e => by rw [e, h1] at h2; omega⟩
  · exact ⟨fun e => by rw [e] at h1; omega, fun e => by rw [e, h1] at h2; omega⟩
  · exact ⟨fun e => by rw [e, h2] at h1; omega, fun e => by rw [e] at h2; omega⟩
  · exact ⟨trivial, trivial⟩

/-- The whole of P5.6: what the common text holds. -/
theorem stay_pure {d : List El} {xs bs : List OpE} (hn : d.length + xs.length + bs.length + 1 < 1000000) (hd : d.Nodup) (h1 : ∀ z ∈ d, z.2.1 = 1)
    (ha : FitL d xs ∧ ∀ i (h : i < xs.length), (xs[i].kind = 1 ∨ xs[i].kind = 2) ∧ xs[i].cl = 2 ∧ xs[i].sq = (i : Int) + 1)
    (hb : FitL d bs ∧ ∀ i (h : i < bs.length), (bs[i].kind = 1 ∨ bs[i].kind = 2) ∧ bs[i].cl = 3 ∧ bs[i].sq = (i : Int) + 1) :
    (∀ z, z ∈ d → z ∈ runP d xs → z ∈ runP d bs → z ∈ runP (runP d xs) (weaveP xs bs).2) ∧
    (∀ z, z.2.1 = 2 → z ∈ runP d xs → z ∈ runP (runP d xs) (weaveP xs bs).2) ∧
    (∀ z, z.2.1 = 3 → z ∈ runP d bs → z ∈ runP (runP d xs) (weaveP xs bs).2) ∧
    (runP (runP d xs) (weaveP xs bs).2).length = d.countP (fun z => decide (z ∈ runP d xs) && decide (z ∈ runP d bs)) + (runP d xs).countP (fun z => decide (z.2.1 = 2)) + (runP d bs).countP (fun z => decide (z.2.1 = 3)) := by
  obtain ⟨ms, hm, hmc⟩ := line_means 2 xs d 0 ha.1 (fun i hi => by rw [Nat.zero_add]; exact ha.2 i hi) hd (fun z hz => .inl (h1 z hz)) (fun z hz h => by have := h1 z hz; omega)
  obtain ⟨ns, hN, hnc⟩ := line_means 3 bs d 0 hb.1 (fun i hi => by rw [Nat.zero_add]; exact hb.2 i hi) hd (fun z hz => .inl (h1 z hz)) (fun z hz h => by have := h1 z hz; omega)
  obtain ⟨w1, w2⟩ := weave_mean bs d xs ms ns hm hN (fun m hm n hn => cpt23 (hmc m hm) (hnc n hn)) hn
  obtain ⟨_, _, w3⟩ := weave_sq bs d xs hn ha.1 hb.1
  have na := hm.nodup hd
  have nb := hN.nodup hd
  have nx := w2.nodup na
  have m1 : ∀ z, z ∈ runP (runP d xs) (weaveP xs bs).2 ↔ actL ms z (z ∈ runP d bs) := fun z => by rw [w3]; exact w1.mem z
  have m2 : ∀ z, z ∈ runP (runP d xs) (weaveP xs bs).2 ↔ actL ns z (z ∈ runP d xs) := fun z => w2.mem z
  have p2 : ∀ z, z.2.1 ≠ 2 → ∀ P : Prop, actL ms z P → P := fun z hz P => actL_none ms z (fun m hm x e h => hz (by rw [h]; have := hmc m hm; rw [e] at this; exact this))
  have p3 : ∀ z, z.2.1 ≠ 3 → ∀ P : Prop, actL ns z P → P := fun z hz P => actL_none ns z (fun m hm x e h => hz (by rw [h]; have := hnc m hm; rw [e] at this; exact this))
  have s1 : ∀ z, z ∈ d → z ∈ runP d xs → z ∈ runP d bs → z ∈ runP (runP d xs) (weaveP xs bs).2 := fun z _ ha hb => (m1 z).mpr (actL_mono ms z (fun _ => hb) ((hm.mem z).mp ha))
  have s2 : ∀ z, z.2.1 = 2 → z ∈ runP d xs → z ∈ runP (runP d xs) (weaveP xs bs).2 := fun z hz ha => (m1 z).mpr (actL_mono ms z (fun h => by have := h1 z h; omega) ((hm.mem z).mp ha))
  have s3 : ∀ z, z.2.1 = 3 → z ∈ runP d bs → z ∈ runP (runP d xs) (weaveP xs bs).2 := fun z hz hb => (m2 z).mpr (actL_mono ns z (fun h => by have := h1 z h; omega) ((hN.mem z).mp hb))
  refine ⟨s1, s2, s3, ?_⟩
  have hp : List.Perm (runP (runP d xs) (weaveP xs bs).2) (d.filter (fun z => decide (z ∈ runP d xs) && decide (z ∈ runP d bs)) ++ ((runP d xs).filter (fun z => decide (z.2.1 = 2)) ++ (runP d bs).filter (fun z => decide (z.2.1 = 3)))) := by
    refine (List.perm_ext_iff_of_nodup nx ?_).mpr ?_
    · refine List.nodup_append.mpr ⟨hd.filter _, List.nodup_append.mpr ⟨na.filter _, nb.filter _, ?_⟩, ?_⟩
      · intro x hx y hy e
        have a1 := (List.mem_filter.mp hx).2
        have a2 := (List.mem_filter.mp hy).2
        simp at a1 a2
        rw [e] at a1
        omega
      · intro x hx y hy e
        have a1 := h1 _ (List.mem_filter.mp hx).1
        rcases List.mem_append.mp hy with hy | hy
        · have a2 := (List.mem_filter.mp hy).2
          simp at a2
          rw [e] at a1
          omega
        · have a2 := (List.mem_filter.mp hy).2
          simp at a2
          rw [e] at a1
          omega
    · intro z
      simp only [List.mem_append, List.mem_filter, Bool.and_eq_true, decide_eq_true_eq]
      constructor
      · intro h
        have h' := (m1 z).mp h
        have h'' := (m2 z).mp h
        by_cases c2 : z.2.1 = 2
        · exact .inr (.inl ⟨p3 z (by omega) _ h'', c2⟩)
        · have hb := p2 z c2 _ h'
          by_cases c3 : z.2.1 = 3
          · exact .inr (.inr ⟨hb, c3⟩)
          · have ha := p3 z c3 _ h''
            exact .inl ⟨p2 z c2 _ ((hm.mem z).mp ha), ha, hb⟩
      · rintro (⟨h, ha, hb⟩ | ⟨ha, hc⟩ | ⟨hb, hc⟩)
        · exact s1 z h ha hb
        · exact s2 z hc ha
        · exact s3 z hc hb
  rw [hp.length_eq, List.length_append, List.length_append, List.countP_eq_length_filter, List.countP_eq_length_filter, List.countP_eq_length_filter, Nat.add_assoc]

end Go.Proofs.YtmkgkgdngjmcmabDoor
