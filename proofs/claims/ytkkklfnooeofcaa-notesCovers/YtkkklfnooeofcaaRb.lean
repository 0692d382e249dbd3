/-
  Reply, Shut.
-/
import Derived.Test.YtkkklfnooeofcaaRa
namespace Go.Proofs.Ytkkklfnooeofcaa
open Go.RowKit Go.Maps Go.ChangeMaps Go.MapKept Go.WideMaps
set_option linter.unusedVariables false

theorem zeroP (w : World) : (zeroValue 69).run Try.prog w = .ok (.pointer none) w := by kernel_rfl

/-- The note of a number. -/
theorem BK.lk {w : World} {O : Nat → Prop} {r b g : Nat} {A B : List NB} {p : NB} (h : BK w O r b g (A ++ p :: B)) : (Instr.lookup 71 (.map (some b)) (.int .i64 (p.n.id : Int)) true).run Try.prog w = .ok (.tuple #[.pointer (some ⟨p.x, 0, none⟩), .bool true]) w :=
  h.mp.look Try.underlying71 zeroP (k := p.n.id) (List.mem_map.2 ⟨p, by simp, rfl⟩)
theorem BK.lk0 {w : World} {O : Nat → Prop} {r b g : Nat} {ps : List NB} (h : BK w O r b g ps) {k : Int} (hk : -9223372036854775808 ≤ k ∧ k ≤ 9223372036854775807) (hn : ∀ n ∈ ps.map NB.n, (n.id : Int) ≠ k) : (Instr.lookup 71 (.map (some b)) (.int .i64 k) true).run Try.prog w = .ok (.tuple #[.pointer none, .bool false]) w :=
  h.mp.noneI Try.underlying71 zeroP hk (fun q hq => by
    obtain ⟨p, hp, rfl⟩ := List.mem_map.1 hq
    exact hn p.n (List.mem_map.2 ⟨p, hp, rfl⟩))
theorem split_map {A B : List Nt} {n : Nt} {ps : List NB} (e : A ++ n :: B = ps.map NB.n) : ∃ A' B' p, ps = A' ++ p :: B' ∧ A'.map NB.n = A ∧ p.n = n ∧ B'.map NB.n = B := by
  obtain ⟨A', C, rfl, h1, h2⟩ := List.map_eq_append_iff.1 e.symm
  obtain ⟨p, B', rfl, h3, h4⟩ := List.map_eq_cons_iff.1 h2
  exact ⟨A', B', p, rfl, h1, h3, h4⟩

/-- One note turned: its own block and the row of its answers. -/
theorem BK.turn {w u : World} {O : Nat → Prop} {r b g : Nat} {A B : List NB} {p q : NB} (h : BK w O r b g (A ++ p :: B)) (hF : Fr (fun k => k = p.x ∨ p.ρ = some k) w u) (hq : NK u q) (e1 : q.n.id = p.n.id) (e2 : q.x = p.x) (e3 : q.ε = p.ε) (e4 : ∀ k, q.ρ = some k → p.ρ = some k ∨ w.heap.size ≤ k) :
    NowB w u O r g ((A ++ q :: B).map NB.n) := by
  obtain ⟨es0, ck, hmb⟩ := h.mp.map
  have hp := h.nk p (by simp)
  have hpo := h.on p (by simp)
  have hmx : b ≠ p.x := fun e => map_ne hp.box hmb ⟨es0, ck, rfl⟩ e.symm
  have hρ : ∀ k, p.ρ = some k → ∃ cur, w.heap[k]? = some (.cells cur 45 (0, 0)) := fun k hk => by
    have := hp.said
    rw [hk] at this
    exact this.blk
  have hnS : ∀ k cs t, w.heap[k]? = some (.cells cs t (0, 0)) → t ≠ 75 → t ≠ 45 → ¬ (k = p.x ∨ p.ρ = some k) := by
    rintro k cs t hk h1 h2 (e | e)
    · exact ty_ne hk hp.box h1 e
    · obtain ⟨cur, hc⟩ := hρ k e
      exact ty_ne hk hc h2 rfl
  have hdis := List.pairwise_append.1 h.dis
  have hdis2 := List.pairwise_cons.1 hdis.2.1
  have other : ∀ p' ∈ A ++ B, p'.x ≠ p.x ∧ ∀ k, p.ρ = some k → p'.ρ ≠ some k := by
    intro p' hp'
    rcases List.mem_append.1 hp' with hA | hB
    · have := hdis.2.2 p' hA p (by simp)
      exact ⟨this.1, fun k hk hk' => this.2 k hk' hk⟩
    · have := hdis2.1 p' hB
      exact ⟨fun e => this.1 e.symm, this.2⟩
  have memo : ∀ p' ∈ A ++ q :: B, p' = q ∨ p' ∈ A ++ B := by
    intro p' hp'
    simp at hp' ⊢
    rcases hp' with h1 | h1 | h1 <;> simp [h1]
  have memp : ∀ p' ∈ A ++ B, p' ∈ A ++ p :: B := by
    intro p' hp'
    simp at hp' ⊢
    rcases hp' with h1 | h1 <;> simp [h1]
  refine ⟨fun k => O k ∨ q.ρ = some k, ⟨b, A ++ q :: B, rfl, hF.keeps h.box (hnS _ _ _ h.box (by decide) (by decide)), ?_, ?_, ?_, .inl h.orr, .inl h.ob, ?_, ?_, ?_, ?_, h.le⟩, ?_, hF.mono ?_⟩
  · have hm := h.mp.fr hF (by
      rintro (e | e)
      · exact hmx e
      · obtain ⟨cur, hc⟩ := hρ b e
        exact map_ne hc hmb ⟨es0, ck, rfl⟩ rfl)
    have e : (A ++ q :: B).map keyN = (A ++ p :: B).map keyN := by simp [keyN, e1, e2]
    rw [e]
    exact hm
  · intro p' hp'
    rcases memo p' hp' with rfl | hp''
    · exact hq
    · have hk := h.nk p' (memp p' hp'')
      refine hk.fr hF ?_ ?_ ?_
      · rintro (e | e)
        · exact (other p' hp'').1 e
        · obtain ⟨cur, hc⟩ := hρ _ e
          exact ty_ne hk.box hc (by decide) rfl
      · rintro k hk' (e | e)
        · have hs := hk.said
          rw [hk'] at hs
          obtain ⟨cur, hc⟩ := hs.blk
          exact ty_ne hc hp.box (by decide) e
        · exact (other p' hp'').2 k e hk'
      · obtain ⟨cur, hc⟩ := (se_sf hk.elems).blk
        exact hnS _ _ _ hc (by decide) (by decide)
  · rw [List.pairwise_append, List.pairwise_cons]
    refine ⟨hdis.1, ⟨fun p' hp' => ⟨?_, fun k hk hk' => ?_⟩, hdis2.2⟩, fun p1 h1 p2 h2 => ?_⟩
    · rw [e2]; exact (hdis2.1 p' hp').1
    · rcases e4 k hk with hk2 | hk2
      · exact (hdis2.1 p' hp').2 k hk2 hk'
      · have := h.old k ((h.on p' (by simp [hp'])).2.2 k hk'); omega
    · rcases List.mem_cons.1 h2 with rfl | h2
      · have hh := hdis.2.2 p1 h1 p (by simp)
        refine ⟨by rw [e2]; exact hh.1, fun k hk hk' => ?_⟩
        rcases e4 k hk' with hk2 | hk2
        · exact hh.2 k hk hk2
        · have := h.old k ((h.on p1 (by simp [h1])).2.2 k hk); omega
      · exact hdis.2.2 p1 h1 p2 (by simp [h2])
  · intro p' hp'
    rcases memo p' hp' with rfl | hp''
    · exact ⟨.inl (by rw [e2]; exact hpo.1), .inl (by rw [e3]; exact hpo.2.1), fun k hk => .inr hk⟩
    · have := h.on p' (memp p' hp'')
      exact ⟨.inl this.1, .inl this.2.1, fun k hk => .inl (this.2.2 k hk)⟩
  · rintro k (hk | hk)
    · exact Nat.lt_of_lt_of_le (h.old k hk) hF.size
    · exact hq.said.lt k hk
  · have hi := h.ids
    rw [List.pairwise_append, List.pairwise_cons] at hi ⊢
    refine ⟨hi.1, ⟨fun p' hp' => by rw [e1]; exact hi.2.1.1 p' hp', hi.2.1.2⟩, fun p1 h1 p2 h2 => ?_⟩
    rcases List.mem_cons.1 h2 with rfl | h2
    · rw [e1]; exact hi.2.2 p1 h1 p (by simp)
    · exact hi.2.2 p1 h1 p2 (by simp [h2])
  · intro p' hp'
    rcases memo p' hp' with rfl | hp''
    · rw [e1]; exact h.bd p (by simp)
    · exact h.bd p' (memp p' hp'')
  · rintro k (hk | hk)
    · exact .inl hk
    · rcases e4 k hk with h1 | h1
      · exact .inl (hpo.2.2 k h1)
      · exact .inr h1
  · rintro k _ (rfl | hk)
    · exact hpo.1
    · exact hpo.2.2 k hk

set_option maxRecDepth 100000 in
set_option maxHeartbeats 1000000 in
theorem shut_none (O : Nat → Prop) (r g : Nat) (Ns : List Nt) (k : Int) (w : World) (h : BD w O r g Ns) (hk : -9223372036854775808 ≤ k ∧ k ≤ 9223372036854775807) (hn : ∀ n ∈ Ns, (n.id : Int) ≠ k) :
    Calls Try.prog 13 #[.pointer (some ⟨r, 0, none⟩), .int .i64 k] w fun e w' => e = .returned (.int .i64 232) ∧ w' = w := by
  obtain ⟨b, ps, rfl, hK⟩ := h
  have lk := hK.lk0 hk hn
  have r0 := cell_row hK.box 0
  simp at r0
  clear hK hn hk
  go_enter Try.func13, Try.ntmps13
  go_wp2
  go_ret
  exact ⟨rfl, rfl⟩

set_option maxRecDepth 100000 in
set_option maxHeartbeats 1000000 in
theorem shut_bad (O : Nat → Prop) (r g : Nat) (A B : List Nt) (n : Nt) (w : World) (h : BD w O r g (A ++ n :: B)) (hn : n.sh = true) :
    Calls Try.prog 13 #[.pointer (some ⟨r, 0, none⟩), .int .i64 (n.id : Int)] w fun e w' => e = .returned (.int .i64 233) ∧ w' = w := by
  obtain ⟨b, ps, e, hK⟩ := h
  obtain ⟨A', B', p, rfl, rfl, rfl, rfl⟩ := split_map e
  have lk := hK.lk
  have r0 := cell_row hK.box 0
  have c6 := cell_row (hK.nk p (by simp)).box 6
  simp [ntc] at r0 c6
  rw [hn] at c6
  clear hK hn e
  generalize p.n.id = id at *
  generalize p.x = x at *
  go_enter Try.func13, Try.ntmps13
  go_wp2
  go_ret
  exact ⟨rfl, rfl⟩

set_option maxRecDepth 100000 in
set_option maxHeartbeats 1000000 in
theorem shut_good (O : Nat → Prop) (r g : Nat) (A B : List Nt) (n : Nt) (w : World) (h : BD w O r g (A ++ n :: B)) (hn : n.sh = false) :
    Calls Try.prog 13 #[.pointer (some ⟨r, 0, none⟩), .int .i64 (n.id : Int)] w fun e w' => e = .returned (.int .i64 0) ∧ NowB w w' O r g (A ++ { n with sh := true } :: B) := by
  obtain ⟨b, ps, e, hK⟩ := h
  obtain ⟨A', B', p, rfl, rfl, rfl, rfl⟩ := split_map e
  have lk := hK.lk
  have hp := hK.nk p (by simp)
  have r0 := cell_row hK.box 0
  have c6 := cell_row hp.box 6
  have z6 := frozen_row hp.box 6
  simp [ntc] at r0 c6
  rw [hn] at c6
  have Z : Hid (NowB w (w.setCell ⟨p.x, 6, none⟩ (.bool true)) O r g (A'.map NB.n ++ { p.n with sh := true } :: B'.map NB.n)) := by
    have hF : Fr (· = p.x) w (w.setCell ⟨p.x, 6, none⟩ (.bool true)) := Fr.setCell w ⟨p.x, 6, none⟩ _ rfl
    have hq : NK (w.setCell ⟨p.x, 6, none⟩ (.bool true)) { p with n := { p.n with sh := true } } := by
      refine ⟨?_, hp.said.fr hF (fun k hk e => ?_), hp.elems.fr hF (fun k hk e => ?_), hp.wf⟩
      · have := set_row hp.box 6 (.bool true)
        simpa [ntc] using this
      · have hs := hp.said
        rw [hk] at hs
        obtain ⟨cur, hc⟩ := hs.blk
        exact ty_ne hc hp.box (by decide) e
      · cases hk
        obtain ⟨cur, hc⟩ := (se_sf hp.elems).blk
        exact ty_ne hc hp.box (by decide) e
    have := hK.turn (hF.mono (fun k _ hk => .inl hk)) hq rfl rfl rfl (fun k hk => .inl hk)
    rw [List.map_append, List.map_cons] at this
    exact this
  clear hK hn e hp
  generalize p.x = x at *
  go_enter Try.func13, Try.ntmps13
  go_wp2
  go_ret
  exact ⟨rfl, Z.out⟩

set_option maxRecDepth 100000 in
set_option maxHeartbeats 1000000 in
theorem reply_none (O : Nat → Prop) (r g : Nat) (Ns : List Nt) (k cc : Int) (s : ByteArray) (w : World) (h : BD w O r g Ns) (hk : -9223372036854775808 ≤ k ∧ k ≤ 9223372036854775807) (hn : ∀ n ∈ Ns, (n.id : Int) ≠ k) :
    Calls Try.prog 19 #[.pointer (some ⟨r, 0, none⟩), .int .i64 k, .int .i64 cc, .string s] w fun e w' => e = .returned (.int .i64 232) ∧ w' = w := by
  obtain ⟨b, ps, rfl, hK⟩ := h
  have lk := hK.lk0 hk hn
  have r0 := cell_row hK.box 0
  simp at r0
  clear hK hn hk
  go_enter Try.func19, Try.ntmps19
  go_wp2
  go_ret
  exact ⟨rfl, rfl⟩

set_option maxRecDepth 100000 in
set_option maxHeartbeats 1000000 in
theorem reply_say (O : Nat → Prop) (r g : Nat) (A B : List Nt) (n : Nt) (cc : Int) (s : ByteArray) (w : World) (h : BD w O r g (A ++ n :: B)) (hsz : s.size ≤ 9223372036854775807) (hs : sayE cc s ≠ 0) :
    Calls Try.prog 19 #[.pointer (some ⟨r, 0, none⟩), .int .i64 (n.id : Int), .int .i64 cc, .string s] w fun e w' => e = .returned (.int .i64 (sayE cc s)) ∧ w' = w := by
  obtain ⟨b, ps, e, hK⟩ := h
  obtain ⟨A', B', p, rfl, rfl, rfl, rfl⟩ := split_map e
  have lk := hK.lk
  have r0 := cell_row hK.box 0
  simp at r0
  have CS := hd (say_any cc s w hsz)
  have hs' : (sayE cc s != 0) = true := by simpa using hs
  clear hK e hs
  generalize sayE cc s = q at *
  generalize p.n.id = id at *
  generalize p.x = x at *
  go_enter Try.func19, Try.ntmps19
  go_wp2_with fail
  refine CS.out.mono ?_
  rintro e w' ⟨rfl, rfl⟩
  go_wp2
  go_ret
  exact ⟨rfl, rfl⟩

set_option maxRecDepth 100000 in
set_option maxHeartbeats 1000000 in
theorem reply_shut (O : Nat → Prop) (r g : Nat) (A B : List Nt) (n : Nt) (cc : Int) (s : ByteArray) (w : World) (h : BD w O r g (A ++ n :: B)) (hsz : s.size ≤ 9223372036854775807) (hs : sayE cc s = 0) (hn : n.sh = true) :
    Calls Try.prog 19 #[.pointer (some ⟨r, 0, none⟩), .int .i64 (n.id : Int), .int .i64 cc, .string s] w fun e w' => e = .returned (.int .i64 233) ∧ w' = w := by
  obtain ⟨b, ps, e, hK⟩ := h
  obtain ⟨A', B', p, rfl, rfl, rfl, rfl⟩ := split_map e
  have lk := hK.lk
  have r0 := cell_row hK.box 0
  have c6 := cell_row (hK.nk p (by simp)).box 6
  simp [ntc] at r0 c6
  rw [hn] at c6
  have CS := hd (say_any cc s w hsz)
  rw [hs] at CS
  clear hK e hs hn
  generalize p.n.id = id at *
  generalize p.x = x at *
  go_enter Try.func19, Try.ntmps19
  go_wp2_with fail
  refine CS.out.mono ?_
  rintro e w' ⟨rfl, rfl⟩
  go_wp2
  go_ret
  exact ⟨rfl, rfl⟩

set_option maxRecDepth 100000 in
set_option maxHeartbeats 4000000 in
theorem reply_good (O : Nat → Prop) (r g : Nat) (A B : List Nt) (n : Nt) (cc : Int) (s : ByteArray) (w : World) (h : BD w O r g (A ++ n :: B)) (hsz : s.size ≤ 9223372036854775807) (hs : sayE cc s = 0) (hn : n.sh = false) (hroom : roomy (n.sd.length + 1) 24) :
    Calls Try.prog 19 #[.pointer (some ⟨r, 0, none⟩), .int .i64 (n.id : Int), .int .i64 cc, .string s] w fun e w' => e = .returned (.int .i64 0) ∧ NowB w w' O r g (A ++ { n with sd := n.sd ++ [(cc, s)] } :: B) := by
  obtain ⟨b, ps, e, hK⟩ := h
  obtain ⟨A', B', p, rfl, rfl, rfl, rfl⟩ := split_map e
  have lk := hK.lk
  have hp := hK.nk p (by simp)
  have r0 := cell_row hK.box 0
  have c6 := cell_row hp.box 6
  have c7 := cell_row hp.box 7
  have lx := block_lt hp.box
  simp [ntc] at r0 c6 c7
  rw [hn] at c6
  have CS := hd (say_any cc s w hsz)
  rw [hs] at CS
  obtain ⟨aq, cq, hsv, -, -⟩ := hp.said.form
  have hxr : p.ρ ≠ some p.x := fun e => by
    have hs := hp.said
    rw [e] at hs
    obtain ⟨cur, hc⟩ := hs.blk
    exact ty_ne hc hp.box (by decide) rfl
  have HS : Hid (SF rpc 2 w 45 p.ρ (.slice aq p.n.sd.length cq) p.n.sd) := by unfold Hid; rw [← hsv]; exact hp.said
  have HB : Hid (w.heap[p.x]? = some (.cells (ntc p.n (.slice aq p.n.sd.length cq) p.ev) 75 (0, 0))) := by unfold Hid; rw [← hsv]; exact hp.box
  have Z : Hid (∀ u, FinR w p.x p.ρ (p.n.sd ++ [(cc, s)]) p.n p.ev u → NowB w u O r g (A'.map NB.n ++ { p.n with sd := p.n.sd ++ [(cc, s)] } :: B'.map NB.n)) := by
    rintro u ⟨k, v, q1, q2, q3, q4⟩
    have hq : NK u { p with n := { p.n with sd := p.n.sd ++ [(cc, s)] }, ρ := some k, sv := v } := by
      refine ⟨q3, q1, hp.elems.fr q4 (fun k hk e => ?_), hp.wf⟩
      cases hk
      obtain ⟨cur, hc⟩ := (se_sf hp.elems).blk
      rcases e with e | e
      · exact ty_ne hc hp.box (by decide) e
      · have hs := hp.said
        rw [e] at hs
        obtain ⟨cur2, hc2⟩ := hs.blk
        exact ty_ne hc hc2 (by decide) rfl
    have := hK.turn q4 hq rfl rfl rfl (fun k hk => by cases hk; exact q2)
    rw [List.map_append, List.map_cons] at this
    exact this
  rw [hsv] at c7
  have HXR := hd hxr
  clear hK hn e hp hs hsv hxr
  go_enter Try.func19, Try.ntmps19
  go_wp2_with fail
  refine CS.out.mono ?_
  rintro e w' ⟨rfl, rfl⟩
  go_upto_region 9 with fail
  refine regRep _ w' p.x p.n.sd.length cq aq cc s p.ρ p.n.sd p.n p.ev HS.out hroom lx c7 HB.out HXR.out (by simp) rfl rfl rfl ?_
  intro L val u hL hW hV
  have Z2 := hd (Z.out u (hW.2.2.2 (hL 15 (by omega))))
  clear hW hV hL Z
  simp only [slRep, DRep, List.getD_cons_zero, List.getD_cons_succ, List.map_cons, List.map_nil, puts, List.foldl_cons, List.foldl_nil, Act.put, List.setIfInBounds_toArray, List.set_cons_succ, List.set_cons_zero]
  go_wp2
  go_ret
  exact ⟨rfl, Z2.out⟩

end Go.Proofs.Ytkkklfnooeofcaa
