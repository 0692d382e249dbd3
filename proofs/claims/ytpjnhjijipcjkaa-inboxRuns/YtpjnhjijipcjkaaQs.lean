/-
  gone: region 11, drawn: Run and gone in one expression.
-/
import Derived.Test.YtpjnhjijipcjkaaQr
namespace Go.Proofs.Ytpjnhjijipcjkaa
open Go.RowKit
set_option linter.unusedVariables false

noncomputable def opsG11 : Array Oper := (Try.f32.body.bind (opsAt 11)).getD #[]
theorem opsG11_size : opsG11.size = 9 := by kernel_rfl
theorem opsG11_earlier : Earlier opsG11 := by
  have h : (List.range 9).all (fun i => ((opsG11[i]?).map (fun o => o.after.all (fun e => !Region.binds .any e || decide (e.on < i)))).getD true) = true := by kernel_rfl
  intro i o ho e he hb
  have hi : i < 9 := by
    have := (Array.getElem?_eq_some_iff.1 ho).1
    rwa [opsG11_size] at this
  have h1 := List.all_eq_true.1 h i (List.mem_range.2 hi)
  rw [ho] at h1
  simp only [Option.map_some, Option.getD_some, Array.all_eq_true'] at h1
  have h2 := h1 e he
  rw [hb] at h2
  simpa using h2

structure JG (a0 : Act) (W3 : World) (x a : Nat) (k nn v : Int) (ia : Option Addr) (il ic : Nat) (Po : World → Prop) (L : Nat → Prop) (a' : Act) (u : World) : Prop where
  fe : Fe a0 a' [36, 37, 38, 39, 40, 41, 42, 43, 11]
  e0 : L 0 → a'.eval (.tmp 36) = pt x
  e1 : L 1 → a'.eval (.tmp 37) = opA k 0 nn v ia il ic
  e2 : L 2 → a'.eval (.tmp 38) = pt x
  e3 : L 3 → a'.eval (.tmp 39) = pt x
  e4 : L 4 → a'.eval (.tmp 40) = pt x
  e5 : L 5 → a'.eval (.tmp 41) = pt a
  e6 : L 6 → a'.eval (.tmp 42) = .func (.func 52) #[] #[.pointer (some ⟨W3.heap.size, 0, none⟩)]
  e7 : L 7 → a'.eval (.tmp 43) = .bool true
  e8 : L 8 → a'.eval (.tmp 11) = .bool true
  wb : ¬ L 6 → u = W3.drew
  wr : L 6 → ¬ L 7 → u = W3.drew.alloc (.cells #[pt a] 28)
  wp : L 7 → Po u
  d7 : L 7 → L 0 ∧ L 1 ∧ L 6
  d6 : L 6 → L 2 ∧ L 5
  s5 : L 5 → L 2
  s4 : L 4 → L 2
  s3 : L 3 → L 2

set_option maxRecDepth 100000 in
set_option maxHeartbeats 4000000 in
theorem gone_region11 (a0 : Act) (W3 : World) (x a : Nat) (k nn v : Int) (ia : Option Addr) (il ic : Nat) (l N g3 g10 : Nat) {K : Act → World → Prop} {Q' : Exit → Act → World → Prop} (Po : World → Prop) (h3 : a0.eval (.tmp 3) = .pointer (some ⟨g3, 0, none⟩)) (h10 : a0.eval (.tmp 10) = .pointer (some ⟨g10, 0, none⟩)) (hz : 44 ≤ a0.tmps.size)
    (hcell : ∀ u, (u = W3.drew ∨ u = W3.drew.alloc (.cells #[pt a] 28)) → u.cell? ⟨g3, 0, none⟩ = some (pt x) ∧ u.cell? ⟨g10, 0, none⟩ = some (.int .i64 k) ∧ u.cell? ⟨g10, 1, none⟩ = some (.int .i64 0) ∧ u.cell? ⟨g10, 2, none⟩ = some (.int .i64 nn) ∧ u.cell? ⟨g10, 3, none⟩ = some (.int .i64 v) ∧ u.cell? ⟨g10, 4, none⟩ = some (.slice ia il ic) ∧ u.cell? ⟨x, 0, none⟩ = some (pt a))
    (CG : Calls Try.prog 32 #[pt x, opA k 0 nn v ia il ic, .func (.func 52) #[] #[.pointer (some ⟨W3.heap.size, 0, none⟩)]] (W3.drew.alloc (.cells #[pt a] 28)) fun e u => e = .returned (.bool true) ∧ Po u)
    (hK : ∀ u, Po u → K (puts a0 [(36, pt x), (37, opA k 0 nn v ia il ic), (38, pt x), (39, pt x), (40, pt x), (41, pt a), (42, .func (.func 52) #[] #[.pointer (some ⟨W3.heap.size, 0, none⟩)]), (43, .bool true), (11, .bool true)]) u) :
    (Code.region 11 opsG11 true).wpIn (Fence.wide.inRound l) N Try.prog (Exit.then K Q') a0 W3 := by
  refine wpIn_region_inv (by kernel_rfl) opsG11_earlier (fun L a' u => JG a0 W3 x a k nn v ia il ic Po L a' u) ?_ ?_ ?_
  · rintro L L' x' u i o h ho hno hall hu
    clear hK
    have q3 := (h.fe.ev (j := 3) (by decide)).trans h3
    have q10 := (h.fe.ev (j := 10) (by decide)).trans h10
    have hi : i < 9 := by
      have := (Array.getElem?_eq_some_iff.1 ho).1
      rwa [opsG11_size] at this
    match i, hi with
    | 0, _ =>
      have n7 : ¬ L 7 := fun h7 => hno (h.d7 h7).1
      have hu2 : u = W3.drew ∨ u = W3.drew.alloc (.cells #[pt a] 28) := by
        by_cases h6 : L 6
        · exact .inr (h.wr h6 n7)
        · exact .inl (h.wb h6)
      refine oi_load1 ho (.tmp 3) (d := some 36) (by kernel_rfl) q3 (hcell u hu2).1 ?_
      exact ⟨h.fe.put (by decide) _, fun _ => ev_eq _ _ (by rw [h.fe.sz]; omega), fun hL => (ev_ne _ _ (by decide)).trans (h.e1 (((hu 1).1 hL).resolve_left (by decide))), fun hL => (ev_ne _ _ (by decide)).trans (h.e2 (((hu 2).1 hL).resolve_left (by decide))), fun hL => (ev_ne _ _ (by decide)).trans (h.e3 (((hu 3).1 hL).resolve_left (by decide))), fun hL => (ev_ne _ _ (by decide)).trans (h.e4 (((hu 4).1 hL).resolve_left (by decide))), fun hL => (ev_ne _ _ (by decide)).trans (h.e5 (((hu 5).1 hL).resolve_left (by decide))), fun hL => (ev_ne _ _ (by decide)).trans (h.e6 (((hu 6).1 hL).resolve_left (by decide))), fun hL => (ev_ne _ _ (by decide)).trans (h.e7 (((hu 7).1 hL).resolve_left (by decide))), fun hL => (ev_ne _ _ (by decide)).trans (h.e8 (((hu 8).1 hL).resolve_left (by decide))), fun hL => h.wb (fun h6 => hL ((hu 6).2 (.inr h6))), fun h6 h7 => h.wr (((hu 6).1 h6).resolve_left (by decide)) (fun hh => h7 ((hu 7).2 (.inr hh))), fun h7 => h.wp (((hu 7).1 h7).resolve_left (by decide)), fun h7 => by have := h.d7 (((hu 7).1 h7).resolve_left (by decide)); exact ⟨(hu 0).2 (.inr this.1), (hu 1).2 (.inr this.2.1), (hu 6).2 (.inr this.2.2)⟩, fun h6 => by have := h.d6 (((hu 6).1 h6).resolve_left (by decide)); exact ⟨(hu 2).2 (.inr this.1), (hu 5).2 (.inr this.2)⟩, fun h5 => (hu 2).2 (.inr (h.s5 (((hu 5).1 h5).resolve_left (by decide)))), fun h5 => (hu 2).2 (.inr (h.s4 (((hu 4).1 h5).resolve_left (by decide)))), fun h5 => (hu 2).2 (.inr (h.s3 (((hu 3).1 h5).resolve_left (by decide))))⟩
    | 1, _ =>
      have n7 : ¬ L 7 := fun h7 => hno (h.d7 h7).2.1
      have hu2 : u = W3.drew ∨ u = W3.drew.alloc (.cells #[pt a] 28) := by
        by_cases h6 : L 6
        · exact .inr (h.wr h6 n7)
        · exact .inl (h.wb h6)
      obtain ⟨-, y0, y1, y2, y3, y4, -⟩ := hcell u hu2
      refine oi_loadO ho (.tmp 10) (d := some 37) (by kernel_rfl) q10 y0 y1 y2 y3 y4 ?_
      exact ⟨h.fe.put (by decide) _, fun hL => (ev_ne _ _ (by decide)).trans (h.e0 (((hu 0).1 hL).resolve_left (by decide))), fun _ => ev_eq _ _ (by rw [h.fe.sz]; omega), fun hL => (ev_ne _ _ (by decide)).trans (h.e2 (((hu 2).1 hL).resolve_left (by decide))), fun hL => (ev_ne _ _ (by decide)).trans (h.e3 (((hu 3).1 hL).resolve_left (by decide))), fun hL => (ev_ne _ _ (by decide)).trans (h.e4 (((hu 4).1 hL).resolve_left (by decide))), fun hL => (ev_ne _ _ (by decide)).trans (h.e5 (((hu 5).1 hL).resolve_left (by decide))), fun hL => (ev_ne _ _ (by decide)).trans (h.e6 (((hu 6).1 hL).resolve_left (by decide))), fun hL => (ev_ne _ _ (by decide)).trans (h.e7 (((hu 7).1 hL).resolve_left (by decide))), fun hL => (ev_ne _ _ (by decide)).trans (h.e8 (((hu 8).1 hL).resolve_left (by decide))), fun hL => h.wb (fun h6 => hL ((hu 6).2 (.inr h6))), fun h6 h7 => h.wr (((hu 6).1 h6).resolve_left (by decide)) (fun hh => h7 ((hu 7).2 (.inr hh))), fun h7 => h.wp (((hu 7).1 h7).resolve_left (by decide)), fun h7 => by have := h.d7 (((hu 7).1 h7).resolve_left (by decide)); exact ⟨(hu 0).2 (.inr this.1), (hu 1).2 (.inr this.2.1), (hu 6).2 (.inr this.2.2)⟩, fun h6 => by have := h.d6 (((hu 6).1 h6).resolve_left (by decide)); exact ⟨(hu 2).2 (.inr this.1), (hu 5).2 (.inr this.2)⟩, fun h5 => (hu 2).2 (.inr (h.s5 (((hu 5).1 h5).resolve_left (by decide)))), fun h5 => (hu 2).2 (.inr (h.s4 (((hu 4).1 h5).resolve_left (by decide)))), fun h5 => (hu 2).2 (.inr (h.s3 (((hu 3).1 h5).resolve_left (by decide))))⟩
    | 2, _ =>
      have n6 : ¬ L 6 := fun h6 => hno (h.d6 h6).1
      have hu2 : u = W3.drew ∨ u = W3.drew.alloc (.cells #[pt a] 28) := .inl (h.wb n6)
      refine oi_load1 ho (.tmp 3) (d := some 38) (by kernel_rfl) q3 (hcell u hu2).1 ?_
      exact ⟨h.fe.put (by decide) _, fun hL => (ev_ne _ _ (by decide)).trans (h.e0 (((hu 0).1 hL).resolve_left (by decide))), fun hL => (ev_ne _ _ (by decide)).trans (h.e1 (((hu 1).1 hL).resolve_left (by decide))), fun _ => ev_eq _ _ (by rw [h.fe.sz]; omega), fun hL => (ev_ne _ _ (by decide)).trans (h.e3 (((hu 3).1 hL).resolve_left (by decide))), fun hL => (ev_ne _ _ (by decide)).trans (h.e4 (((hu 4).1 hL).resolve_left (by decide))), fun hL => (ev_ne _ _ (by decide)).trans (h.e5 (((hu 5).1 hL).resolve_left (by decide))), fun hL => (ev_ne _ _ (by decide)).trans (h.e6 (((hu 6).1 hL).resolve_left (by decide))), fun hL => (ev_ne _ _ (by decide)).trans (h.e7 (((hu 7).1 hL).resolve_left (by decide))), fun hL => (ev_ne _ _ (by decide)).trans (h.e8 (((hu 8).1 hL).resolve_left (by decide))), fun hL => h.wb (fun h6 => hL ((hu 6).2 (.inr h6))), fun h6 h7 => h.wr (((hu 6).1 h6).resolve_left (by decide)) (fun hh => h7 ((hu 7).2 (.inr hh))), fun h7 => h.wp (((hu 7).1 h7).resolve_left (by decide)), fun h7 => by have := h.d7 (((hu 7).1 h7).resolve_left (by decide)); exact ⟨(hu 0).2 (.inr this.1), (hu 1).2 (.inr this.2.1), (hu 6).2 (.inr this.2.2)⟩, fun h6 => by have := h.d6 (((hu 6).1 h6).resolve_left (by decide)); exact ⟨(hu 2).2 (.inr this.1), (hu 5).2 (.inr this.2)⟩, fun h5 => (hu 2).2 (.inr (h.s5 (((hu 5).1 h5).resolve_left (by decide)))), fun h5 => (hu 2).2 (.inr (h.s4 (((hu 4).1 h5).resolve_left (by decide)))), fun h5 => (hu 2).2 (.inr (h.s3 (((hu 3).1 h5).resolve_left (by decide))))⟩
    | 3, _ =>
      refine oi_nil ho (.tmp 38) (d := some 39) (by kernel_rfl) (h.e2 (depI ho hall 2 (by kernel_rfl))) ?_
      exact ⟨h.fe.put (by decide) _, fun hL => (ev_ne _ _ (by decide)).trans (h.e0 (((hu 0).1 hL).resolve_left (by decide))), fun hL => (ev_ne _ _ (by decide)).trans (h.e1 (((hu 1).1 hL).resolve_left (by decide))), fun hL => (ev_ne _ _ (by decide)).trans (h.e2 (((hu 2).1 hL).resolve_left (by decide))), fun _ => ev_eq _ _ (by rw [h.fe.sz]; omega), fun hL => (ev_ne _ _ (by decide)).trans (h.e4 (((hu 4).1 hL).resolve_left (by decide))), fun hL => (ev_ne _ _ (by decide)).trans (h.e5 (((hu 5).1 hL).resolve_left (by decide))), fun hL => (ev_ne _ _ (by decide)).trans (h.e6 (((hu 6).1 hL).resolve_left (by decide))), fun hL => (ev_ne _ _ (by decide)).trans (h.e7 (((hu 7).1 hL).resolve_left (by decide))), fun hL => (ev_ne _ _ (by decide)).trans (h.e8 (((hu 8).1 hL).resolve_left (by decide))), fun hL => h.wb (fun h6 => hL ((hu 6).2 (.inr h6))), fun h6 h7 => h.wr (((hu 6).1 h6).resolve_left (by decide)) (fun hh => h7 ((hu 7).2 (.inr hh))), fun h7 => h.wp (((hu 7).1 h7).resolve_left (by decide)), fun h7 => by have := h.d7 (((hu 7).1 h7).resolve_left (by decide)); exact ⟨(hu 0).2 (.inr this.1), (hu 1).2 (.inr this.2.1), (hu 6).2 (.inr this.2.2)⟩, fun h6 => by have := h.d6 (((hu 6).1 h6).resolve_left (by decide)); exact ⟨(hu 2).2 (.inr this.1), (hu 5).2 (.inr this.2)⟩, fun h5 => (hu 2).2 (.inr (h.s5 (((hu 5).1 h5).resolve_left (by decide)))), fun h5 => (hu 2).2 (.inr (h.s4 (((hu 4).1 h5).resolve_left (by decide)))), fun _ => (hu 2).2 (.inr (depI ho hall 2 (by kernel_rfl)))⟩
    | 4, _ =>
      refine oi_field ho (.tmp 39) (d := some 40) (by kernel_rfl) (h.e3 (depI ho hall 3 (by kernel_rfl))) ?_
      exact ⟨h.fe.put (by decide) _, fun hL => (ev_ne _ _ (by decide)).trans (h.e0 (((hu 0).1 hL).resolve_left (by decide))), fun hL => (ev_ne _ _ (by decide)).trans (h.e1 (((hu 1).1 hL).resolve_left (by decide))), fun hL => (ev_ne _ _ (by decide)).trans (h.e2 (((hu 2).1 hL).resolve_left (by decide))), fun hL => (ev_ne _ _ (by decide)).trans (h.e3 (((hu 3).1 hL).resolve_left (by decide))), fun _ => ev_eq _ _ (by rw [h.fe.sz]; omega), fun hL => (ev_ne _ _ (by decide)).trans (h.e5 (((hu 5).1 hL).resolve_left (by decide))), fun hL => (ev_ne _ _ (by decide)).trans (h.e6 (((hu 6).1 hL).resolve_left (by decide))), fun hL => (ev_ne _ _ (by decide)).trans (h.e7 (((hu 7).1 hL).resolve_left (by decide))), fun hL => (ev_ne _ _ (by decide)).trans (h.e8 (((hu 8).1 hL).resolve_left (by decide))), fun hL => h.wb (fun h6 => hL ((hu 6).2 (.inr h6))), fun h6 h7 => h.wr (((hu 6).1 h6).resolve_left (by decide)) (fun hh => h7 ((hu 7).2 (.inr hh))), fun h7 => h.wp (((hu 7).1 h7).resolve_left (by decide)), fun h7 => by have := h.d7 (((hu 7).1 h7).resolve_left (by decide)); exact ⟨(hu 0).2 (.inr this.1), (hu 1).2 (.inr this.2.1), (hu 6).2 (.inr this.2.2)⟩, fun h6 => by have := h.d6 (((hu 6).1 h6).resolve_left (by decide)); exact ⟨(hu 2).2 (.inr this.1), (hu 5).2 (.inr this.2)⟩, fun h5 => (hu 2).2 (.inr (h.s5 (((hu 5).1 h5).resolve_left (by decide)))), fun _ => (hu 2).2 (.inr (h.s3 (depI ho hall 3 (by kernel_rfl)))), fun h5 => (hu 2).2 (.inr (h.s3 (((hu 3).1 h5).resolve_left (by decide))))⟩
    | 5, _ =>
      have n6 : ¬ L 6 := fun h6 => hno (h.d6 h6).2
      have hu2 : u = W3.drew ∨ u = W3.drew.alloc (.cells #[pt a] 28) := .inl (h.wb n6)
      refine oi_load2 ho (.tmp 40) (d := some 41) (by kernel_rfl) (h.e4 (depI ho hall 4 (by kernel_rfl))) (hcell u hu2).2.2.2.2.2.2 ?_
      exact ⟨h.fe.put (by decide) _, fun hL => (ev_ne _ _ (by decide)).trans (h.e0 (((hu 0).1 hL).resolve_left (by decide))), fun hL => (ev_ne _ _ (by decide)).trans (h.e1 (((hu 1).1 hL).resolve_left (by decide))), fun hL => (ev_ne _ _ (by decide)).trans (h.e2 (((hu 2).1 hL).resolve_left (by decide))), fun hL => (ev_ne _ _ (by decide)).trans (h.e3 (((hu 3).1 hL).resolve_left (by decide))), fun hL => (ev_ne _ _ (by decide)).trans (h.e4 (((hu 4).1 hL).resolve_left (by decide))), fun _ => ev_eq _ _ (by rw [h.fe.sz]; omega), fun hL => (ev_ne _ _ (by decide)).trans (h.e6 (((hu 6).1 hL).resolve_left (by decide))), fun hL => (ev_ne _ _ (by decide)).trans (h.e7 (((hu 7).1 hL).resolve_left (by decide))), fun hL => (ev_ne _ _ (by decide)).trans (h.e8 (((hu 8).1 hL).resolve_left (by decide))), fun hL => h.wb (fun h6 => hL ((hu 6).2 (.inr h6))), fun h6 h7 => h.wr (((hu 6).1 h6).resolve_left (by decide)) (fun hh => h7 ((hu 7).2 (.inr hh))), fun h7 => h.wp (((hu 7).1 h7).resolve_left (by decide)), fun h7 => by have := h.d7 (((hu 7).1 h7).resolve_left (by decide)); exact ⟨(hu 0).2 (.inr this.1), (hu 1).2 (.inr this.2.1), (hu 6).2 (.inr this.2.2)⟩, fun h6 => by have := h.d6 (((hu 6).1 h6).resolve_left (by decide)); exact ⟨(hu 2).2 (.inr this.1), (hu 5).2 (.inr this.2)⟩, fun _ => (hu 2).2 (.inr (h.s4 (depI ho hall 4 (by kernel_rfl)))), fun h5 => (hu 2).2 (.inr (h.s4 (((hu 4).1 h5).resolve_left (by decide)))), fun h5 => (hu 2).2 (.inr (h.s3 (((hu 3).1 h5).resolve_left (by decide))))⟩
    | 6, _ =>
      have n7 : ¬ L 7 := fun h7 => hno (h.d7 h7).2.2
      have hu3 := h.wb hno
      have hl2 : L 2 := h.s5 (depI ho hall 5 (by kernel_rfl))
      refine oi_call ho 30 #[.tmp 41] #[28] (d := some 42) (by kernel_rfl) Try.func30 rfl (by kernel_rfl) (vs := #[pt a]) (by have := (h.e5 (depI ho hall 5 (by kernel_rfl))); simp [this]) (run_any a u) ?_
      rintro e w' ⟨rfl, rfl⟩
      refine ⟨_, rfl, ?_⟩
      subst hu3
      exact ⟨h.fe.put (by decide) _, fun hL => (ev_ne _ _ (by decide)).trans (h.e0 (((hu 0).1 hL).resolve_left (by decide))), fun hL => (ev_ne _ _ (by decide)).trans (h.e1 (((hu 1).1 hL).resolve_left (by decide))), fun hL => (ev_ne _ _ (by decide)).trans (h.e2 (((hu 2).1 hL).resolve_left (by decide))), fun hL => (ev_ne _ _ (by decide)).trans (h.e3 (((hu 3).1 hL).resolve_left (by decide))), fun hL => (ev_ne _ _ (by decide)).trans (h.e4 (((hu 4).1 hL).resolve_left (by decide))), fun hL => (ev_ne _ _ (by decide)).trans (h.e5 (((hu 5).1 hL).resolve_left (by decide))), fun _ => ev_eq _ _ (by rw [h.fe.sz]; omega), fun hL => (ev_ne _ _ (by decide)).trans (h.e7 (((hu 7).1 hL).resolve_left (by decide))), fun hL => (ev_ne _ _ (by decide)).trans (h.e8 (((hu 8).1 hL).resolve_left (by decide))), fun hL => absurd ((hu 6).2 (.inl rfl)) hL, fun _ _ => rfl, fun h7 => absurd (((hu 7).1 h7).resolve_left (by decide)) n7, fun h7 => absurd (((hu 7).1 h7).resolve_left (by decide)) n7, fun _ => ⟨(hu 2).2 (.inr hl2), (hu 5).2 (.inr (depI ho hall 5 (by kernel_rfl)))⟩, fun h5 => (hu 2).2 (.inr (h.s5 (((hu 5).1 h5).resolve_left (by decide)))), fun h5 => (hu 2).2 (.inr (h.s4 (((hu 4).1 h5).resolve_left (by decide)))), fun h5 => (hu 2).2 (.inr (h.s3 (((hu 3).1 h5).resolve_left (by decide))))⟩
    | 7, _ =>
      have l6 : L 6 := depI ho hall 6 (by kernel_rfl)
      have hu3 := h.wr l6 hno
      refine oi_call ho 32 #[.tmp 36, .tmp 37, .tmp 42] #[61, 56, 67] (d := some 43) (by kernel_rfl) Try.func32 rfl (by kernel_rfl) (vs := #[pt x, opA k 0 nn v ia il ic, .func (.func 52) #[] #[.pointer (some ⟨W3.heap.size, 0, none⟩)]]) (by have t0 := (h.e0 (depI ho hall 0 (by kernel_rfl))); have t1 := (h.e1 (depI ho hall 1 (by kernel_rfl))); have t6 := h.e6 l6; simp [t0, t1, t6]) (by rw [hu3]; exact CG) ?_
      rintro e w' ⟨rfl, hP⟩
      refine ⟨_, rfl, ?_⟩
      exact ⟨h.fe.put (by decide) _, fun hL => (ev_ne _ _ (by decide)).trans (h.e0 (((hu 0).1 hL).resolve_left (by decide))), fun hL => (ev_ne _ _ (by decide)).trans (h.e1 (((hu 1).1 hL).resolve_left (by decide))), fun hL => (ev_ne _ _ (by decide)).trans (h.e2 (((hu 2).1 hL).resolve_left (by decide))), fun hL => (ev_ne _ _ (by decide)).trans (h.e3 (((hu 3).1 hL).resolve_left (by decide))), fun hL => (ev_ne _ _ (by decide)).trans (h.e4 (((hu 4).1 hL).resolve_left (by decide))), fun hL => (ev_ne _ _ (by decide)).trans (h.e5 (((hu 5).1 hL).resolve_left (by decide))), fun hL => (ev_ne _ _ (by decide)).trans (h.e6 (((hu 6).1 hL).resolve_left (by decide))), fun _ => ev_eq _ _ (by rw [h.fe.sz]; omega), fun hL => (ev_ne _ _ (by decide)).trans (h.e8 (((hu 8).1 hL).resolve_left (by decide))), fun hL => absurd ((hu 6).2 (.inr l6)) hL, fun _ h7 => absurd ((hu 7).2 (.inl rfl)) h7, fun _ => hP, fun _ => ⟨(hu 0).2 (.inr (depI ho hall 0 (by kernel_rfl))), (hu 1).2 (.inr (depI ho hall 1 (by kernel_rfl))), (hu 6).2 (.inr l6)⟩, fun _ => by have := h.d6 l6; exact ⟨(hu 2).2 (.inr this.1), (hu 5).2 (.inr this.2)⟩, fun h5 => (hu 2).2 (.inr (h.s5 (((hu 5).1 h5).resolve_left (by decide)))), fun h5 => (hu 2).2 (.inr (h.s4 (((hu 4).1 h5).resolve_left (by decide)))), fun h5 => (hu 2).2 (.inr (h.s3 (((hu 3).1 h5).resolve_left (by decide))))⟩
    | 8, _ =>
      refine oi_assign ho (.tmp 43) (d := some 11) (by kernel_rfl) (h.e7 (depI ho hall 7 (by kernel_rfl))) ?_
      exact ⟨h.fe.put (by decide) _, fun hL => (ev_ne _ _ (by decide)).trans (h.e0 (((hu 0).1 hL).resolve_left (by decide))), fun hL => (ev_ne _ _ (by decide)).trans (h.e1 (((hu 1).1 hL).resolve_left (by decide))), fun hL => (ev_ne _ _ (by decide)).trans (h.e2 (((hu 2).1 hL).resolve_left (by decide))), fun hL => (ev_ne _ _ (by decide)).trans (h.e3 (((hu 3).1 hL).resolve_left (by decide))), fun hL => (ev_ne _ _ (by decide)).trans (h.e4 (((hu 4).1 hL).resolve_left (by decide))), fun hL => (ev_ne _ _ (by decide)).trans (h.e5 (((hu 5).1 hL).resolve_left (by decide))), fun hL => (ev_ne _ _ (by decide)).trans (h.e6 (((hu 6).1 hL).resolve_left (by decide))), fun hL => (ev_ne _ _ (by decide)).trans (h.e7 (((hu 7).1 hL).resolve_left (by decide))), fun _ => ev_eq _ _ (by rw [h.fe.sz]; omega), fun hL => h.wb (fun h6 => hL ((hu 6).2 (.inr h6))), fun h6 h7 => h.wr (((hu 6).1 h6).resolve_left (by decide)) (fun hh => h7 ((hu 7).2 (.inr hh))), fun h7 => h.wp (((hu 7).1 h7).resolve_left (by decide)), fun h7 => by have := h.d7 (((hu 7).1 h7).resolve_left (by decide)); exact ⟨(hu 0).2 (.inr this.1), (hu 1).2 (.inr this.2.1), (hu 6).2 (.inr this.2.2)⟩, fun h6 => by have := h.d6 (((hu 6).1 h6).resolve_left (by decide)); exact ⟨(hu 2).2 (.inr this.1), (hu 5).2 (.inr this.2)⟩, fun h5 => (hu 2).2 (.inr (h.s5 (((hu 5).1 h5).resolve_left (by decide)))), fun h5 => (hu 2).2 (.inr (h.s4 (((hu 4).1 h5).resolve_left (by decide)))), fun h5 => (hu 2).2 (.inr (h.s3 (((hu 3).1 h5).resolve_left (by decide))))⟩
    | i + 9, hi => omega
  · rintro L x' u h hall
    rw [opsG11_size] at hall
    have hp := Fe.puts [(36, pt x), (37, opA k 0 nn v ia il ic), (38, pt x), (39, pt x), (40, pt x), (41, pt a), (42, .func (.func 52) #[] #[.pointer (some ⟨W3.heap.size, 0, none⟩)]), (43, .bool true), (11, .bool true)] a0 x' h.fe (by
      intro p hp
      simp only [List.mem_cons, List.not_mem_nil, or_false] at hp
      rcases hp with rfl | rfl | rfl | rfl | rfl | rfl | rfl | rfl | rfl
      · exact ⟨by show _ < _; simp only; omega, h.e0 (hall 0 (by omega))⟩
      · exact ⟨by show _ < _; simp only; omega, h.e1 (hall 1 (by omega))⟩
      · exact ⟨by show _ < _; simp only; omega, h.e2 (hall 2 (by omega))⟩
      · exact ⟨by show _ < _; simp only; omega, h.e3 (hall 3 (by omega))⟩
      · exact ⟨by show _ < _; simp only; omega, h.e4 (hall 4 (by omega))⟩
      · exact ⟨by show _ < _; simp only; omega, h.e5 (hall 5 (by omega))⟩
      · exact ⟨by show _ < _; simp only; omega, h.e6 (hall 6 (by omega))⟩
      · exact ⟨by show _ < _; simp only; omega, h.e7 (hall 7 (by omega))⟩
      · exact ⟨by show _ < _; simp only; omega, h.e8 (hall 8 (by omega))⟩
      )
    rw [hp]
    exact hK u (h.wp (hall 7 (by omega)))
  · intro L hL
    exact ⟨Fe.refl _ _, fun h => absurd h (hL _), fun h => absurd h (hL _), fun h => absurd h (hL _), fun h => absurd h (hL _), fun h => absurd h (hL _), fun h => absurd h (hL _), fun h => absurd h (hL _), fun h => absurd h (hL _), fun h => absurd h (hL _), fun _ => rfl, fun h => absurd h (hL _), fun h => absurd h (hL _), fun h => absurd h (hL _), fun h => absurd h (hL _), fun h => absurd h (hL _), fun h => absurd h (hL _), fun h => absurd h (hL _)⟩

end Go.Proofs.Ytpjnhjijipcjkaa
