/-
  Texts put together: Jh Ji Jj.
-/
import Derived.Test.YtkkklfnooeofcabJg
import Derived.Test.YtkkklfnooeofcabMRa
import Derived.Test.YtkkklfnooeofcabMPa
/-! Jh -/
namespace Go.Proofs.Ytkkklfnooeofcab
open Go.RowKit Go.Lib
set_option linter.unusedVariables false

set_option maxRecDepth 100000 in
set_option maxHeartbeats 1000000 in
theorem rreply_none (O : Nat → Prop) (r g : Nat) (Ns : List Nt) (k cc : Int) (s : ByteArray) (w : World) (h : RBD w O r g Ns) (hn : ∀ n ∈ Ns, (n.id : Int) ≠ k) :
    Calls Try.prog 33 #[.pointer (some ⟨r, 0, none⟩), .int .i64 k, .int .i64 cc, .string s] w fun e w' => e = .returned (.int .i64 232) ∧ w' = w := by
  have CF := hd (rfind_none O r g Ns k w h hn)
  clear h hn
  go_enter Try.func33, Try.ntmps33
  go_upto_region 2 with (go_at_call 39; refine CF.out.mono ?_; rintro e w1 ⟨rfl, rfl⟩)
  go_wp2
  go_ret
  exact ⟨rfl, rfl⟩

set_option maxRecDepth 100000 in
set_option maxHeartbeats 1000000 in
theorem rreply_say (O : Nat → Prop) (r g : Nat) (A B : List Nt) (n : Nt) (cc : Int) (s : ByteArray) (w : World) (h : RBD w O r g (A ++ n :: B)) (hsz : s.size ≤ 9223372036854775807) (hs : sayE cc s ≠ 0) :
    Calls Try.prog 33 #[.pointer (some ⟨r, 0, none⟩), .int .i64 (n.id : Int), .int .i64 cc, .string s] w fun e w' => e = .returned (.int .i64 (sayE cc s)) ∧ w' = w := by
  have CF := hd (rfind_hit O r g A B n w h)
  have CB := hd (rbad_any cc s w hsz)
  obtain ⟨E, hE⟩ : ∃ E, sayE cc s = E := ⟨_, rfl⟩
  rw [hE] at CB hs ⊢
  have j2 : ¬ (A.length : Int) < 0 := by omega
  clear h hE
  generalize A.length = m at *
  go_enter Try.func33, Try.ntmps33
  go_upto_region 2 with (go_at_call 39; refine CF.out.mono ?_; rintro e w1 ⟨rfl, rfl⟩)
  go_upto_region 5 with (go_at_call 49; refine CB.out.mono ?_; rintro e w1 ⟨rfl, rfl⟩)
  go_wp2
  go_ret
  exact ⟨rfl, rfl⟩

set_option maxRecDepth 100000 in
set_option maxHeartbeats 1000000 in
theorem rreply_shut (O : Nat → Prop) (r g : Nat) (A B : List Nt) (n : Nt) (cc : Int) (s : ByteArray) (w : World) (h : RBD w O r g (A ++ n :: B)) (hsz : s.size ≤ 9223372036854775807) (hs : sayE cc s = 0) (hn : n.sh = true) :
    Calls Try.prog 33 #[.pointer (some ⟨r, 0, none⟩), .int .i64 (n.id : Int), .int .i64 cc, .string s] w fun e w' => e = .returned (.int .i64 233) ∧ w' = w := by
  have CF := hd (rfind_hit O r g A B n w h)
  have CB := hd (rbad_any cc s w hsz)
  rw [hs] at CB
  clear hs
  obtain ⟨β, v, ps, e, hK⟩ := h
  obtain ⟨A', B', p, rfl, rfl, rfl, rfl⟩ := split_r e
  obtain ⟨a, c, hv, c0, -, hc1, hc2, hr⟩ := hK.len
  have hle := hK.lele
  have hal : A'.length < (A' ++ p :: B').length := by simp
  obtain ⟨b, c', hb, hv', hcell⟩ := hK.at A'.length hal
  rw [get_mid] at hcell
  rw [hv'] at hv
  injection hv with v1 v2 v3
  subst v1
  have d4 := hcell 4 (.bool p.n.sh) (by omega) rfl
  rw [hn] at d4
  obtain ⟨N, hN⟩ : ∃ N, (A' ++ p :: B').length = N := ⟨_, rfl⟩
  rw [List.length_map] at CF
  rw [hN] at c0 hal hc1 hle
  obtain ⟨m, hm⟩ : ∃ m, A'.length = m := ⟨_, rfl⟩
  rw [hm] at CF d4 hal
  have j1 : (m : Int) < (N : Int) := by omega
  have j2 : ¬ (m : Int) < 0 := by omega
  generalize p.n.id = id at *
  clear hcell hK e hN hm hb hv' v3
  go_enter Try.func33, Try.ntmps33
  go_upto_region 2 with (go_at_call 39; refine CF.out.mono ?_; rintro e w1 ⟨rfl, rfl⟩)
  go_upto_region 5 with (go_at_call 49; refine CB.out.mono ?_; rintro e w1 ⟨rfl, rfl⟩)
  go_wp2
  go_ret
  exact ⟨rfl, rfl⟩

set_option maxRecDepth 100000 in
set_option maxHeartbeats 4000000 in
theorem rreply_good (O : Nat → Prop) (r g : Nat) (A B : List Nt) (n : Nt) (cc : Int) (s : ByteArray) (w : World) (h : RBD w O r g (A ++ n :: B)) (hsz : s.size ≤ 9223372036854775807) (hs : sayE cc s = 0) (hn : n.sh = false) (hroom : roomy (n.sd.length + 1) 24) :
    Calls Try.prog 33 #[.pointer (some ⟨r, 0, none⟩), .int .i64 (n.id : Int), .int .i64 cc, .string s] w fun e w' => e = .returned (.int .i64 0) ∧ NowR w w' O r g (A ++ { n with sd := n.sd ++ [(cc, s)] } :: B) := by
  have CF := hd (rfind_hit O r g A B n w h)
  have CB := hd (rbad_any cc s w hsz)
  rw [hs] at CB
  clear hs
  obtain ⟨β, v, ps, e, hK⟩ := h
  obtain ⟨A', B', p, rfl, rfl, rfl, rfl⟩ := split_r e
  obtain ⟨a, c, hv, c0, -, hc1, hc2, hr⟩ := hK.len
  have hle := hK.lele
  have hal : A'.length < (A' ++ p :: B').length := by simp
  obtain ⟨b, c', hb, hv', hcell⟩ := hK.at A'.length hal
  rw [get_mid] at hcell
  subst hb
  have HK := hd hK
  rw [hv'] at hv
  injection hv with v1 v2 v3
  subst v1
  obtain ⟨cb, hcb⟩ := hK.row.blk
  have HCB := hd hcb
  have lb := block_lt hcb
  have z5 := hd (hK.row.frozen (A'.length * 6 + 5))
  have d4 := hcell 4 (.bool p.n.sh) (by omega) rfl
  have d5 := hcell 5 _ (by omega) rfl
  rw [hn] at d4
  have hp := hK.rk p (by simp)
  have HP := hd hp
  obtain ⟨N, hN⟩ : ∃ N, (A' ++ p :: B').length = N := ⟨_, rfl⟩
  have hrr : r ≠ b := ty_ne hK.box hcb (by decide)
  have hρ : ∀ k, p.ρ = some k → k ≠ r ∧ k ≠ b := fun k hk => by
    have hs := hp.sd
    rw [hk] at hs
    obtain ⟨cur, hc⟩ := hs.blk
    exact ⟨ty_ne hc hK.box (by decide), ty_ne hc hcb (by decide)⟩
  have HR := hd hρ
  have HAL := hd hal
  rw [List.length_map] at CF
  rw [hN] at c0 hal hc1 hle
  have j1 : (A'.length : Int) < (N : Int) := by omega
  have j2 : ¬ (A'.length : Int) < 0 := by omega
  have C0 := hd c0
  have D5 := hd d5
  clear hcell hK e hN v3 hp hρ hcb hn
  go_enter Try.func33, Try.ntmps33
  go_upto_region 2 with (go_at_call 39; refine CF.out.mono ?_; rintro e w1 ⟨rfl, hw⟩; obtain rfl := hw.symm)
  go_upto_region 5 with (go_at_call 49; refine CB.out.mono ?_; rintro e w1 ⟨rfl, hw⟩; obtain rfl := hw.symm)
  go_upto_region 9 with fail
  refine regRR _ w r b N c A'.length p.sn p.sc p.sa cc s (fun v u => ∃ g2, SF rpc 2 u 90 (some g2) v (p.n.sd ++ [(cc, s)]) ∧ (p.ρ = some g2 ∨ w.heap.size ≤ g2) ∧ Fr (fun k => p.ρ = some k) w u) hal hr lb C0.out D5.out ?_ ?_ ?_ (by simp) rfl rfl rfl rfl ?_
  · intro u g2 hbu hg2
    obtain ⟨v', u', hrun, g3, hS, hN⟩ := push_reply u p.ρ _ p.n.sd (HP.out.sd.fr (S := fun _ => False) (Fr.of_below hbu) (fun _ _ h => h)) g2 cc s hg2 hroom
    refine ⟨v', u', hrun, g3, hS, ?_, ?_⟩
    · rcases hN with ⟨e, -⟩ | ⟨e, -⟩
      · exact .inl e
      · exact .inr (by rw [e]; exact hbu.size)
    · have hF : Fr (fun k => p.ρ = some k) w u := Fr.of_below hbu
      rcases hN with ⟨e, hf⟩ | ⟨e, hf⟩
      · exact hF.next hf (fun k _ hk => by rw [e, hk])
      · exact hF.next hf (fun k _ hk => hk.elim)
  · rintro v u ⟨g2, hS, hg, hF⟩
    have := hF.keeps HK.out.box (fun e => (HR.out r e).1 rfl)
    have h2 := C0.out
    rw [cell_row HK.out.box 0] at h2
    rw [cell_row this 0]
    exact h2
  · rintro v u ⟨g2, hS, hg, hF⟩
    obtain ⟨a2, c2, hv2, -, -⟩ := hS.form
    have hk := hF.keeps HCB.out (fun e => (HR.out b e).2 rfl)
    refine ⟨⟨a2, _, c2, hv2⟩, ⟨.slice p.sa p.sn p.sc, ?_⟩, frozen_row hk _⟩
    · have h2 := D5.out
      rw [cell_row HCB.out] at h2
      rw [cell_row hk]
      exact h2
  intro L val u hL hW hV
  obtain ⟨v2, u1, ⟨g2, hS, hg, hF⟩, rfl⟩ := hW.2.2.2 (hL 20 (by omega))
  obtain ⟨a2, c2, hv2, -, -⟩ := hS.form
  have hk := hF.keeps HCB.out (fun e => (HR.out b e).2 rfl)
  have hFs : Fr (· = b) u1 (u1.setCell ⟨b, A'.length * 6 + 5, none⟩ v2) := Fr.setCell u1 ⟨b, A'.length * 6 + 5, none⟩ _ rfl
  have hFF : Fr (fun k => k = b ∨ p.ρ = some k) w (u1.setCell ⟨b, A'.length * 6 + 5, none⟩ v2) := (hF.mono (fun k _ hk => .inr hk)).next hFs (fun k _ hk => .inl hk)
  have Z : Hid (NowR w (u1.setCell ⟨b, A'.length * 6 + 5, none⟩ v2) O r g (A'.map RN.n ++ { p.n with sd := p.n.sd ++ [(cc, s)] } :: B'.map RN.n)) := by
    have hrow := (HK.out.row.fr hF (fun k hk e => by cases hk; exact (HR.out b e).2 rfl)).setk sz_rnc A'.length 5 v2 { p with n := { p.n with sd := p.n.sd ++ [(cc, s)] }, sa := a2, sn := (p.n.sd ++ [(cc, s)]).length, sc := c2, ρ := some g2 } HAL.out (by omega) (by rw [get_mid, hv2]; rfl)
    rw [set_mid] at hrow
    have hq : RK (u1.setCell ⟨b, A'.length * 6 + 5, none⟩ v2) { p with n := { p.n with sd := p.n.sd ++ [(cc, s)] }, sa := a2, sn := (p.n.sd ++ [(cc, s)]).length, sc := c2, ρ := some g2 } := by
      refine ⟨HP.out.el.fr hFF (fun k hk e => ?_), ?_, HP.out.wf⟩
      · have hs := HP.out.el
        rw [hk] at hs
        obtain ⟨cur, hc⟩ := hs.blk
        rcases e with e | e
        · exact ty_ne hc HCB.out (by decide) e
        · have hs2 := HP.out.sd
          rw [e] at hs2
          obtain ⟨cur2, hc2⟩ := hs2.blk
          exact ty_ne hc hc2 (by decide) rfl
      · show SF rpc 2 _ 90 (some g2) (.slice a2 (p.n.sd ++ [(cc, s)]).length c2) (p.n.sd ++ [(cc, s)])
        rw [← hv2]
        refine hS.fr hFs (fun k hk2 e => ?_)
        cases hk2
        obtain ⟨cur, hc⟩ := hS.blk
        exact ty_ne hc hk (by decide) e
    have := HK.out.turn hFF hrow hq rfl rfl (fun k hk2 => by cases hk2; exact hg)
    rw [List.map_append, List.map_cons] at this
    exact this
  generalize u1.setCell ⟨b, A'.length * 6 + 5, none⟩ v2 = u2 at *
  clear hV hL hW hFF hFs hk hS hF
  simp only [slRR, DRR, List.getD_cons_zero, List.getD_cons_succ, List.map_cons, List.map_nil, puts, List.foldl_cons, List.foldl_nil, Act.put, List.setIfInBounds_toArray, List.set_cons_succ, List.set_cons_zero]
  go_wp2
  go_ret
  exact ⟨rfl, Z.out⟩
end Go.Proofs.Ytkkklfnooeofcab

/-! Ji -/
namespace Go.Proofs.Ytkkklfnooeofcab
open Go.RowKit Go.Lib
set_option linter.unusedVariables false

set_option maxRecDepth 100000 in
set_option maxHeartbeats 1000000 in
theorem rput_span (r : Nat) (a : Option Addr) (n c : Nat) (f t cc : Int) (s : ByteArray) (w : World) (hn : n ≤ 9223372036854775807) (h : f < 0 ∨ (n : Int) < t ∨ t ≤ f) :
    Calls Try.prog 32 #[.pointer (some ⟨r, 0, none⟩), .slice a n c, .int .i64 f, .int .i64 t, .int .i64 cc, .string s] w fun e w' => e = .returned (.tuple #[.int .i64 0, .int .i64 230]) ∧ w' = w := by
  by_cases h1 : f < 0
  · clear h
    go_enter Try.func32, Try.ntmps32
    go_wp2
    refine bodyPost_ret (v := .tuple #[.int .i64 0, .int .i64 230]) ?_ rfl ⟨rfl, rfl⟩
    simp [results, Try.results32, go_sem]
  · by_cases h2 : (n : Int) < t
    · clear h
      go_enter Try.func32, Try.ntmps32
      go_wp2
      refine bodyPost_ret (v := .tuple #[.int .i64 0, .int .i64 230]) ?_ rfl ⟨rfl, rfl⟩
      simp [results, Try.results32, go_sem]
    · have h3 : t ≤ f := by omega
      clear h
      go_enter Try.func32, Try.ntmps32
      go_wp2
      refine bodyPost_ret (v := .tuple #[.int .i64 0, .int .i64 230]) ?_ rfl ⟨rfl, rfl⟩
      simp [results, Try.results32, go_sem]

set_option maxRecDepth 100000 in
set_option maxHeartbeats 1000000 in
theorem rput_say (r : Nat) (a : Option Addr) (n c : Nat) (f t : Nat) (cc : Int) (s : ByteArray) (w : World) (hn : n ≤ 9223372036854775807) (hf : f < t) (ht : t ≤ n) (hsz : s.size ≤ 9223372036854775807) (hs : sayE cc s ≠ 0) :
    Calls Try.prog 32 #[.pointer (some ⟨r, 0, none⟩), .slice a n c, .int .i64 f, .int .i64 t, .int .i64 cc, .string s] w fun e w' => e = .returned (.tuple #[.int .i64 0, .int .i64 (sayE cc s)]) ∧ w' = w := by
  have CB := hd (rbad_any cc s w hsz)
  obtain ⟨E, hE⟩ : ∃ E, sayE cc s = E := ⟨_, rfl⟩
  rw [hE] at CB hs ⊢
  have h1 : ¬ (f : Int) < 0 := by omega
  have h2 : ¬ (n : Int) < (t : Int) := by omega
  have h3 : ¬ (t : Int) ≤ (f : Int) := by omega
  clear hE
  go_enter Try.func32, Try.ntmps32
  go_upto_region 4 with (go_at_call 49; refine CB.out.mono ?_; rintro e w1 ⟨rfl, rfl⟩)
  go_wp2
  refine bodyPost_ret (v := .tuple #[.int .i64 0, .int .i64 E]) ?_ rfl ⟨rfl, rfl⟩
  simp [results, Try.results32, go_sem]

set_option maxRecDepth 100000 in
set_option maxHeartbeats 1000000 in
theorem rput_full (O : Nat → Prop) (r : Nat) (Ns : List Nt) (a : Option Addr) (n c : Nat) (f t : Nat) (cc : Int) (s : ByteArray) (w : World) (h : RBD w O r 256 Ns) (hn : n ≤ 9223372036854775807) (hf : f < t) (ht : t ≤ n) (hsz : s.size ≤ 9223372036854775807) (hs : sayE cc s = 0) :
    Calls Try.prog 32 #[.pointer (some ⟨r, 0, none⟩), .slice a n c, .int .i64 f, .int .i64 t, .int .i64 cc, .string s] w fun e w' => e = .returned (.tuple #[.int .i64 0, .int .i64 234]) ∧ w' = w := by
  have CB := hd (rbad_any cc s w hsz)
  rw [hs] at CB
  obtain ⟨β, v, ps, rfl, hK⟩ := h
  obtain ⟨a0, c1, hv, -, c0, -, -, hr⟩ := hK.len
  have h1 : ¬ (f : Int) < 0 := by omega
  have h2 : ¬ (n : Int) < (t : Int) := by omega
  have h3 : ¬ (t : Int) ≤ (f : Int) := by omega
  clear hK hv hs
  go_enter Try.func32, Try.ntmps32
  go_upto_region 4 with (go_at_call 49; refine CB.out.mono ?_; rintro e w1 ⟨rfl, rfl⟩)
  go_wp2
  refine bodyPost_ret (v := .tuple #[.int .i64 0, .int .i64 234]) ?_ rfl ⟨rfl, rfl⟩
  simp [results, Try.results32, go_sem]
end Go.Proofs.Ytkkklfnooeofcab

/-! Jj -/
namespace Go.Proofs.Ytkkklfnooeofcab
open Go.RowKit Go.Lib
set_option linter.unusedVariables false

set_option maxRecDepth 100000 in
set_option maxHeartbeats 1000000 in
theorem put_span (r : Nat) (a : Option Addr) (n c : Nat) (f t cc : Int) (s : ByteArray) (w : World) (hn : n ≤ 9223372036854775807) (h : f < 0 ∨ (n : Int) < t ∨ t ≤ f) :
    Calls Try.prog 10 #[.pointer (some ⟨r, 0, none⟩), .slice a n c, .int .i64 f, .int .i64 t, .int .i64 cc, .string s] w fun e w' => e = .returned (.tuple #[.int .i64 0, .int .i64 230]) ∧ w' = w := by
  by_cases h1 : f < 0
  · clear h
    go_enter Try.func10, Try.ntmps10
    go_wp2
    refine bodyPost_ret (v := .tuple #[.int .i64 0, .int .i64 230]) ?_ rfl ⟨rfl, rfl⟩
    simp [results, Try.results10, go_sem]
  · by_cases h2 : (n : Int) < t
    · clear h
      go_enter Try.func10, Try.ntmps10
      go_wp2
      refine bodyPost_ret (v := .tuple #[.int .i64 0, .int .i64 230]) ?_ rfl ⟨rfl, rfl⟩
      simp [results, Try.results10, go_sem]
    · have h3 : t ≤ f := by omega
      clear h
      go_enter Try.func10, Try.ntmps10
      go_wp2
      refine bodyPost_ret (v := .tuple #[.int .i64 0, .int .i64 230]) ?_ rfl ⟨rfl, rfl⟩
      simp [results, Try.results10, go_sem]

set_option maxRecDepth 100000 in
set_option maxHeartbeats 1000000 in
theorem put_say (r : Nat) (a : Option Addr) (n c : Nat) (f t : Nat) (cc : Int) (s : ByteArray) (w : World) (hn : n ≤ 9223372036854775807) (hf : f < t) (ht : t ≤ n) (hsz : s.size ≤ 9223372036854775807) (hs : sayE cc s ≠ 0) :
    Calls Try.prog 10 #[.pointer (some ⟨r, 0, none⟩), .slice a n c, .int .i64 f, .int .i64 t, .int .i64 cc, .string s] w fun e w' => e = .returned (.tuple #[.int .i64 0, .int .i64 (sayE cc s)]) ∧ w' = w := by
  have CB := hd (say_any cc s w hsz)
  obtain ⟨E, hE⟩ : ∃ E, sayE cc s = E := ⟨_, rfl⟩
  rw [hE] at CB hs ⊢
  have h1 : ¬ (f : Int) < 0 := by omega
  have h2 : ¬ (n : Int) < (t : Int) := by omega
  have h3 : ¬ (t : Int) ≤ (f : Int) := by omega
  clear hE
  go_enter Try.func10, Try.ntmps10
  go_upto_region 4 with (go_at_call 27; refine CB.out.mono ?_; rintro e w1 ⟨rfl, rfl⟩)
  go_wp2
  refine bodyPost_ret (v := .tuple #[.int .i64 0, .int .i64 E]) ?_ rfl ⟨rfl, rfl⟩
  simp [results, Try.results10, go_sem]

set_option maxRecDepth 100000 in
set_option maxHeartbeats 1000000 in
theorem put_full (O : Nat → Prop) (r : Nat) (Ns : List Nt) (w : World) (h : BD w O r 256 Ns) (a : Option Addr) (n c : Nat) (f t : Nat) (hf : f < t) (ht : t ≤ n) (cc : Int) (s : ByteArray) (hs : sayE cc s = 0) (hsz : s.size ≤ 9223372036854775807) :
    Calls Try.prog 10 #[.pointer (some ⟨r, 0, none⟩), .slice a n c, .int .i64 f, .int .i64 t, .int .i64 cc, .string s] w fun e w' => e = .returned (.tuple #[.int .i64 0, .int .i64 234]) ∧ w' = w := by
  obtain ⟨b, ps, rfl, hK⟩ := h
  have r1 := cell_row hK.box 1
  simp at r1
  have n1 : ¬ (f : Int) < 0 := by omega
  have n2 : ¬ (n : Int) < (t : Int) := by omega
  have n3 : ¬ (t : Int) ≤ (f : Int) := by omega
  have HS := hd hs
  clear hK hs hf ht
  go_enter Try.func10, Try.ntmps10
  go_wp2_with fail
  refine (say_any cc s w hsz).mono ?_
  rintro e w' ⟨rfl, rfl⟩
  rw [HS.out]
  go_wp2
  refine bodyPost_ret (v := .tuple #[.int .i64 0, .int .i64 234]) (by simp [results, Try.results10, go_sem]) rfl ?_
  exact ⟨rfl, rfl⟩
end Go.Proofs.Ytkkklfnooeofcab
