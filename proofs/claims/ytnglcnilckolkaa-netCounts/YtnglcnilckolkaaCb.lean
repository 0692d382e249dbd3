/-
  NetCounts: asked.
-/
import Derived.Test.YtnglcnilckolkaaCa
namespace Go.Proofs.Ytnglcnilckolkaa
open Go.RowKit
set_option linter.unusedVariables false

set_option maxRecDepth 100000 in
set_option maxHeartbeats 4000000 in
theorem asked_send1 (x : Nat) (cl : Int) (G : List DG) (B : Nat) (S : Nat → Prop) (w : World) (h : NB w x cl G B S) (hB : B < 1000000000) (ow : Bool) (oi oa ob : Int) (xs : List Int) (a : Option Addr) (n c : Nat) (hb : IsB w a n c xs) :
    Calls Try.prog 25 #[.pointer (some ⟨x, 0, none⟩), opv ⟨1, ow, oi, oa, ob, xs⟩ a n c] w fun e w' => e = .returned (.int .i64 (askE cl G ⟨1, ow, oi, oa, ob, xs⟩)) ∧ NowB w w' x cl (askG cl G ⟨1, ow, oi, oa, ob, xs⟩) (B + 1) S := by
  have b0 : Below w.heap.size w (w.alloc (.cells #[.int .i64 1, .bool ow, .int .i64 oi, .int .i64 oa, .int .i64 ob, .slice a n c] 53)) := (Below.refl _ _).alloc (Nat.le_refl _) _
  have H := hd (h.below b0)
  have HB := hd (hb.below b0)
  have BB := hd b0
  have HO := hd h.old
  have hl0 := heap_alloc_new w (.cells #[.int .i64 1, .bool ow, .int .i64 oi, .int .i64 oa, .int .i64 ob, .slice a n c] 53)
  have HL := hd hl0
  clear h hb hl0 b0
  unfold opv
  obtain ⟨w0, hw0⟩ : ∃ w0, w0 = w.alloc (.cells #[.int .i64 1, .bool ow, .int .i64 oi, .int .i64 oa, .int .i64 ob, .slice a n c] 53) := ⟨_, rfl⟩
  rw [← hw0] at H HB BB HL
  have c0 := cell_row HL.out 0
  have c2 := cell_row HL.out 2
  have c3 := cell_row HL.out 3
  have c4 := cell_row HL.out 4
  have c5 := cell_row HL.out 5
  simp at c0 c2 c3 c4 c5
  have SN : Hid (∀ U, Fr (fun _ => False) w0 U → Calls Try.prog 12 #[.pointer (some ⟨x, 0, none⟩), .int .i64 oa, .int .i64 ob, .slice a (min n 3000) c] U fun e w' => e = .returned (.int .i64 (askE cl G ⟨1, ow, oi, oa, ob, xs⟩)) ∧ NowB w w' x cl (askG cl G ⟨1, ow, oi, oa, ob, xs⟩) (B + 1) S ∧ w'.cell? ⟨w.heap.size, 3, none⟩ = some (.int .i64 oa) ∧ w'.cell? ⟨w.heap.size, 4, none⟩ = some (.int .i64 ob) ∧ w'.cell? ⟨w.heap.size, 5, none⟩ = some (.slice a n c)) := by
    intro U hU
    have hIB : IsB U a (min n 3000) c (xs.take 3000) := by
      have h1 := HB.out.fr hU (fun _ _ _ _ h => h)
      by_cases hq : 3000 ≤ n
      · rw [show min n 3000 = 3000 by omega]
        exact h1.take 3000 hq
      · rw [show min n 3000 = n by omega, List.take_of_length_le (by rw [h1.1]; omega)]
        exact h1
    have hl3 : (xs.take 3000).length = min n 3000 := hIB.1
    refine (send_any x cl G B S U (H.out.fr hU (fun _ _ h => h)) hB oa ob a _ c _ hIB).mono ?_
    rintro e w' ⟨rfl, hN⟩
    have he : askE cl G ⟨1, ow, oi, oa, ob, xs⟩ = sendE cl G.length oa ob (min n 3000) := by
      unfold askE
      rw [if_pos (by simp), hl3]
    have hg : askG cl G ⟨1, ow, oi, oa, ob, xs⟩ = sendG cl G oa ob (xs.take 3000) := by
      unfold askG
      rw [if_pos (by simp)]
    obtain ⟨S', k1, k2, k3⟩ := hN
    have hU0 := hU.size
    have row := k3.keeps (hU.keeps HL.out (fun h => h)) (fun hs => by have := HO.out _ hs; omega)
    rw [he, hg]
    refine ⟨rfl, ⟨S', k1, fun k hk => (k2 k hk).imp id (fun h => by have := BB.out.size; omega), ((Fr.of_below BB.out).trans (hU.mono (fun _ _ h => h.elim))).trans k3⟩, ?_, ?_, ?_⟩
    · have := cell_row row 3
      simpa using this
    · have := cell_row row 4
      simpa using this
    · have := cell_row row 5
      simpa using this
  have GV : Hid (∀ U, Fr (fun _ => False) w0 U → Calls Try.prog 39 #[.slice a n c] U fun e w' => e = .returned (.slice a (min n 3000) c) ∧ w' = U) := fun U hU => given_any a n c xs U (HB.out.fr hU (fun _ _ _ _ h => h))
  clear c0 c2 H HB HL
  go_enter Try.func25, Try.ntmps25
  go_wp2_with fail
  rw [← hw0]
  clear hw0
  go_region_held3 (fun U => U.cell? ⟨w.heap.size, 3, none⟩ = some (.int .i64 oa) ∧ U.cell? ⟨w.heap.size, 4, none⟩ = some (.int .i64 ob) ∧ U.cell? ⟨w.heap.size, 5, none⟩ = some (.slice a n c)) (first | (with_reducible exact ⟨by assumption, by assumption, by assumption⟩) | (go_keep; done)) (first | (go_at_call 39; refine (GV.out _ (by repeat (first | exact Fr.refl _ _ | refine Fr.trans ?_ (Fr.drew _ _) | refine Fr.trans ?_ (Fr.drewN _ _ _)))).mono ?_; rintro e u ⟨rfl, rfl⟩) | (go_at_call 12; refine (SN.out _ (by repeat (first | exact Fr.refl _ _ | refine Fr.trans ?_ (Fr.drew _ _) | refine Fr.trans ?_ (Fr.drewN _ _ _)))).mono ?_; rintro e u ⟨rfl, hN, d3, d4, d5⟩; have R := hd hN; clear hN))
  all_goals
    go_wp2
    go_ret
    exact ⟨rfl, R.out⟩

set_option maxRecDepth 100000 in
set_option maxHeartbeats 4000000 in
theorem asked_send8 (x : Nat) (cl : Int) (G : List DG) (B : Nat) (S : Nat → Prop) (w : World) (h : NB w x cl G B S) (hB : B < 1000000000) (ow : Bool) (oi oa ob : Int) (xs : List Int) (a : Option Addr) (n c : Nat) (hb : IsB w a n c xs) :
    Calls Try.prog 25 #[.pointer (some ⟨x, 0, none⟩), opv ⟨8, ow, oi, oa, ob, xs⟩ a n c] w fun e w' => e = .returned (.int .i64 (askE cl G ⟨8, ow, oi, oa, ob, xs⟩)) ∧ NowB w w' x cl (askG cl G ⟨8, ow, oi, oa, ob, xs⟩) (B + 1) S := by
  have b0 : Below w.heap.size w (w.alloc (.cells #[.int .i64 8, .bool ow, .int .i64 oi, .int .i64 oa, .int .i64 ob, .slice a n c] 53)) := (Below.refl _ _).alloc (Nat.le_refl _) _
  have H := hd (h.below b0)
  have HB := hd (hb.below b0)
  have BB := hd b0
  have HO := hd h.old
  have hl0 := heap_alloc_new w (.cells #[.int .i64 8, .bool ow, .int .i64 oi, .int .i64 oa, .int .i64 ob, .slice a n c] 53)
  have HL := hd hl0
  clear h hb hl0 b0
  unfold opv
  obtain ⟨w0, hw0⟩ : ∃ w0, w0 = w.alloc (.cells #[.int .i64 8, .bool ow, .int .i64 oi, .int .i64 oa, .int .i64 ob, .slice a n c] 53) := ⟨_, rfl⟩
  rw [← hw0] at H HB BB HL
  have c0 := cell_row HL.out 0
  have c2 := cell_row HL.out 2
  have c3 := cell_row HL.out 3
  have c4 := cell_row HL.out 4
  have c5 := cell_row HL.out 5
  simp at c0 c2 c3 c4 c5
  have SN : Hid (∀ U, Fr (fun _ => False) w0 U → Calls Try.prog 12 #[.pointer (some ⟨x, 0, none⟩), .int .i64 oa, .int .i64 ob, .slice a (min n 3000) c] U fun e w' => e = .returned (.int .i64 (askE cl G ⟨8, ow, oi, oa, ob, xs⟩)) ∧ NowB w w' x cl (askG cl G ⟨8, ow, oi, oa, ob, xs⟩) (B + 1) S ∧ w'.cell? ⟨w.heap.size, 3, none⟩ = some (.int .i64 oa) ∧ w'.cell? ⟨w.heap.size, 4, none⟩ = some (.int .i64 ob) ∧ w'.cell? ⟨w.heap.size, 5, none⟩ = some (.slice a n c)) := by
    intro U hU
    have hIB : IsB U a (min n 3000) c (xs.take 3000) := by
      have h1 := HB.out.fr hU (fun _ _ _ _ h => h)
      by_cases hq : 3000 ≤ n
      · rw [show min n 3000 = 3000 by omega]
        exact h1.take 3000 hq
      · rw [show min n 3000 = n by omega, List.take_of_length_le (by rw [h1.1]; omega)]
        exact h1
    have hl3 : (xs.take 3000).length = min n 3000 := hIB.1
    refine (send_any x cl G B S U (H.out.fr hU (fun _ _ h => h)) hB oa ob a _ c _ hIB).mono ?_
    rintro e w' ⟨rfl, hN⟩
    have he : askE cl G ⟨8, ow, oi, oa, ob, xs⟩ = sendE cl G.length oa ob (min n 3000) := by
      unfold askE
      rw [if_pos (by simp), hl3]
    have hg : askG cl G ⟨8, ow, oi, oa, ob, xs⟩ = sendG cl G oa ob (xs.take 3000) := by
      unfold askG
      rw [if_pos (by simp)]
    obtain ⟨S', k1, k2, k3⟩ := hN
    have hU0 := hU.size
    have row := k3.keeps (hU.keeps HL.out (fun h => h)) (fun hs => by have := HO.out _ hs; omega)
    rw [he, hg]
    refine ⟨rfl, ⟨S', k1, fun k hk => (k2 k hk).imp id (fun h => by have := BB.out.size; omega), ((Fr.of_below BB.out).trans (hU.mono (fun _ _ h => h.elim))).trans k3⟩, ?_, ?_, ?_⟩
    · have := cell_row row 3
      simpa using this
    · have := cell_row row 4
      simpa using this
    · have := cell_row row 5
      simpa using this
  have GV : Hid (∀ U, Fr (fun _ => False) w0 U → Calls Try.prog 39 #[.slice a n c] U fun e w' => e = .returned (.slice a (min n 3000) c) ∧ w' = U) := fun U hU => given_any a n c xs U (HB.out.fr hU (fun _ _ _ _ h => h))
  clear c0 c2 H HB HL
  go_enter Try.func25, Try.ntmps25
  go_wp2_with fail
  rw [← hw0]
  clear hw0
  go_region_held3 (fun U => U.cell? ⟨w.heap.size, 3, none⟩ = some (.int .i64 oa) ∧ U.cell? ⟨w.heap.size, 4, none⟩ = some (.int .i64 ob) ∧ U.cell? ⟨w.heap.size, 5, none⟩ = some (.slice a n c)) (first | (with_reducible exact ⟨by assumption, by assumption, by assumption⟩) | (go_keep; done)) (first | (go_at_call 39; refine (GV.out _ (by repeat (first | exact Fr.refl _ _ | refine Fr.trans ?_ (Fr.drew _ _) | refine Fr.trans ?_ (Fr.drewN _ _ _)))).mono ?_; rintro e u ⟨rfl, rfl⟩) | (go_at_call 12; refine (SN.out _ (by repeat (first | exact Fr.refl _ _ | refine Fr.trans ?_ (Fr.drew _ _) | refine Fr.trans ?_ (Fr.drewN _ _ _)))).mono ?_; rintro e u ⟨rfl, hN, d3, d4, d5⟩; have R := hd hN; clear hN))
  all_goals
    go_wp2
    go_ret
    exact ⟨rfl, R.out⟩

set_option maxRecDepth 100000 in
set_option maxHeartbeats 4000000 in
theorem asked_out2 (x : Nat) (cl : Int) (G : List DG) (B : Nat) (S : Nat → Prop) (w : World) (h : NB w x cl G B S) (hB : B < 1000000000) (ow : Bool) (oi oa ob : Int) (xs : List Int) (a : Option Addr) (n c : Nat) (hb : IsB w a n c xs) :
    Calls Try.prog 25 #[.pointer (some ⟨x, 0, none⟩), opv ⟨2, ow, oi, oa, ob, xs⟩ a n c] w fun e w' => e = .returned (.int .i64 (askE cl G ⟨2, ow, oi, oa, ob, xs⟩)) ∧ NowB w w' x cl (askG cl G ⟨2, ow, oi, oa, ob, xs⟩) (B + 1) S := by
  have b0 : Below w.heap.size w (w.alloc (.cells #[.int .i64 2, .bool ow, .int .i64 oi, .int .i64 oa, .int .i64 ob, .slice a n c] 53)) := (Below.refl _ _).alloc (Nat.le_refl _) _
  have H := hd (h.below b0)
  have HB := hd (hb.below b0)
  have BB := hd b0
  have HO := hd h.old
  have hl0 := heap_alloc_new w (.cells #[.int .i64 2, .bool ow, .int .i64 oi, .int .i64 oa, .int .i64 ob, .slice a n c] 53)
  have HL := hd hl0
  clear h hb hl0 b0
  unfold opv
  obtain ⟨w0, hw0⟩ : ∃ w0, w0 = w.alloc (.cells #[.int .i64 2, .bool ow, .int .i64 oi, .int .i64 oa, .int .i64 ob, .slice a n c] 53) := ⟨_, rfl⟩
  rw [← hw0] at H HB BB HL
  have c0 := cell_row HL.out 0
  have c2 := cell_row HL.out 2
  have c3 := cell_row HL.out 3
  have c4 := cell_row HL.out 4
  have c5 := cell_row HL.out 5
  simp at c0 c2 c3 c4 c5
  by_cases hi : isAt G.length oi
  · obtain ⟨j, rfl⟩ : ∃ j : Nat, oi = j := ⟨oi.toNat, by have := hi.1; omega⟩
    have hj : j < G.length := by have := hi.2; omega
    have he : askE cl G ⟨2, ow, (j : Int), oa, ob, xs⟩ = 0 := by
      unfold askE
      rw [if_neg (by simp), if_pos (show isOut 2 from .inl rfl), if_pos hi] <;> simp
    have hg : askG cl G ⟨2, ow, (j : Int), oa, ob, xs⟩ = without G j := by
      unfold askG
      rw [if_neg (by simp), if_pos (show isOut 2 from .inl rfl), if_pos hi] <;> simp
    have HE := hd he
    have HG := hd hg
    clear he hg
    go_enter Try.func25, Try.ntmps25
    go_wp2_with fail
    rw [← hw0]
    clear hw0
    refine (deliver_good x cl G B S w0 H.out j hj).mono ?_
    generalize G.getD j zDG = dd
    rintro e u ⟨v, rfl, γ, k1, k2, k3, k4⟩
    obtain ⟨a', c', rfl⟩ := k1.sv_of
    have Z : Hid (NowB w (u.alloc (.cells #[.int .i64 dd.f, .int .i64 dd.t, .slice a' dd.b.length c', .bool dd.s] 37)) x cl (without G j) (B + 1) S) :=
      NowB.on (NowB.below (NowB.mono ⟨S, k3, fun k hk => .inl hk, k4⟩ (Nat.le_succ _)) BB.out) ((Below.refl _ _).alloc (Nat.le_refl _) _)
    clear k1 k2 k3 k4
    unfold dgv
    go_wp2
    go_ret
    exact ⟨by rw [HE.out]; rfl, by rw [HG.out]; exact Z.out⟩
  · have he : askE cl G ⟨2, ow, oi, oa, ob, xs⟩ = 74 := by
      unfold askE
      rw [if_neg (by simp), if_pos (show isOut 2 from .inl rfl), if_neg hi] <;> simp
    have hg : askG cl G ⟨2, ow, oi, oa, ob, xs⟩ = G := by
      unfold askG
      rw [if_neg (by simp), if_pos (show isOut 2 from .inl rfl), if_neg hi] <;> simp
    have HE := hd he
    have HG := hd hg
    clear he hg
    go_enter Try.func25, Try.ntmps25
    go_wp2_with fail
    rw [← hw0]
    clear hw0
    refine (deliver_bad x cl G B S w0 H.out oi hi).mono ?_
    rintro e u ⟨rfl, bu⟩
    have Z : Hid (NowB w (u.alloc (.cells #[.int .i64 0, .int .i64 0, .slice none 0 0, .bool false] 37)) x cl G (B + 1) S) :=
      NowB.on (NowB.on (NowB.below (NowB.same H.out (Nat.le_succ _)) BB.out) bu) ((Below.refl _ _).alloc (Nat.le_refl _) _)
    clear bu
    unfold dgv zDG
    go_wp2
    go_ret
    exact ⟨by rw [HE.out]; rfl, by rw [HG.out]; exact Z.out⟩

set_option maxRecDepth 100000 in
set_option maxHeartbeats 4000000 in
theorem asked_out3 (x : Nat) (cl : Int) (G : List DG) (B : Nat) (S : Nat → Prop) (w : World) (h : NB w x cl G B S) (hB : B < 1000000000) (ow : Bool) (oi oa ob : Int) (xs : List Int) (a : Option Addr) (n c : Nat) (hb : IsB w a n c xs) :
    Calls Try.prog 25 #[.pointer (some ⟨x, 0, none⟩), opv ⟨3, ow, oi, oa, ob, xs⟩ a n c] w fun e w' => e = .returned (.int .i64 (askE cl G ⟨3, ow, oi, oa, ob, xs⟩)) ∧ NowB w w' x cl (askG cl G ⟨3, ow, oi, oa, ob, xs⟩) (B + 1) S := by
  have b0 : Below w.heap.size w (w.alloc (.cells #[.int .i64 3, .bool ow, .int .i64 oi, .int .i64 oa, .int .i64 ob, .slice a n c] 53)) := (Below.refl _ _).alloc (Nat.le_refl _) _
  have H := hd (h.below b0)
  have HB := hd (hb.below b0)
  have BB := hd b0
  have HO := hd h.old
  have hl0 := heap_alloc_new w (.cells #[.int .i64 3, .bool ow, .int .i64 oi, .int .i64 oa, .int .i64 ob, .slice a n c] 53)
  have HL := hd hl0
  clear h hb hl0 b0
  unfold opv
  obtain ⟨w0, hw0⟩ : ∃ w0, w0 = w.alloc (.cells #[.int .i64 3, .bool ow, .int .i64 oi, .int .i64 oa, .int .i64 ob, .slice a n c] 53) := ⟨_, rfl⟩
  rw [← hw0] at H HB BB HL
  have c0 := cell_row HL.out 0
  have c2 := cell_row HL.out 2
  have c3 := cell_row HL.out 3
  have c4 := cell_row HL.out 4
  have c5 := cell_row HL.out 5
  simp at c0 c2 c3 c4 c5
  by_cases hi : isAt G.length oi
  · obtain ⟨j, rfl⟩ : ∃ j : Nat, oi = j := ⟨oi.toNat, by have := hi.1; omega⟩
    have hj : j < G.length := by have := hi.2; omega
    have he : askE cl G ⟨3, ow, (j : Int), oa, ob, xs⟩ = 0 := by
      unfold askE
      rw [if_neg (by simp), if_pos (show isOut 3 from .inr rfl), if_pos hi] <;> simp
    have hg : askG cl G ⟨3, ow, (j : Int), oa, ob, xs⟩ = without G j := by
      unfold askG
      rw [if_neg (by simp), if_pos (show isOut 3 from .inr rfl), if_pos hi] <;> simp
    have HE := hd he
    have HG := hd hg
    clear he hg
    go_enter Try.func25, Try.ntmps25
    go_wp2_with fail
    rw [← hw0]
    clear hw0
    refine (drop_good x cl G B S w0 H.out j hj).mono ?_
    rintro e u ⟨rfl, k3, k4⟩
    have Z : Hid (NowB w u x cl (without G j) (B + 1) S) := NowB.below (NowB.mono ⟨S, k3, fun k hk => .inl hk, k4⟩ (Nat.le_succ _)) BB.out
    clear k3 k4
    go_wp2
    go_ret
    exact ⟨by rw [HE.out]; rfl, by rw [HG.out]; exact Z.out⟩
  · have he : askE cl G ⟨3, ow, oi, oa, ob, xs⟩ = 74 := by
      unfold askE
      rw [if_neg (by simp), if_pos (show isOut 3 from .inr rfl), if_neg hi] <;> simp
    have hg : askG cl G ⟨3, ow, oi, oa, ob, xs⟩ = G := by
      unfold askG
      rw [if_neg (by simp), if_pos (show isOut 3 from .inr rfl), if_neg hi] <;> simp
    have HE := hd he
    have HG := hd hg
    clear he hg
    go_enter Try.func25, Try.ntmps25
    go_wp2_with fail
    rw [← hw0]
    clear hw0
    refine (drop_bad x cl G B S w0 H.out oi hi).mono ?_
    rintro e u ⟨rfl, rfl⟩
    have Z : Hid (NowB w u x cl G (B + 1) S) := NowB.below (NowB.same H.out (Nat.le_succ _)) BB.out
    go_wp2
    go_ret
    exact ⟨by rw [HE.out]; rfl, by rw [HG.out]; exact Z.out⟩

set_option maxRecDepth 100000 in
set_option maxHeartbeats 4000000 in
theorem asked_double (x : Nat) (cl : Int) (G : List DG) (B : Nat) (S : Nat → Prop) (w : World) (h : NB w x cl G B S) (hB : B < 1000000000) (ow : Bool) (oi oa ob : Int) (xs : List Int) (a : Option Addr) (n c : Nat) (hb : IsB w a n c xs) :
    Calls Try.prog 25 #[.pointer (some ⟨x, 0, none⟩), opv ⟨4, ow, oi, oa, ob, xs⟩ a n c] w fun e w' => e = .returned (.int .i64 (askE cl G ⟨4, ow, oi, oa, ob, xs⟩)) ∧ NowB w w' x cl (askG cl G ⟨4, ow, oi, oa, ob, xs⟩) (B + 1) S := by
  have b0 : Below w.heap.size w (w.alloc (.cells #[.int .i64 4, .bool ow, .int .i64 oi, .int .i64 oa, .int .i64 ob, .slice a n c] 53)) := (Below.refl _ _).alloc (Nat.le_refl _) _
  have H := hd (h.below b0)
  have HB := hd (hb.below b0)
  have BB := hd b0
  have HO := hd h.old
  have hl0 := heap_alloc_new w (.cells #[.int .i64 4, .bool ow, .int .i64 oi, .int .i64 oa, .int .i64 ob, .slice a n c] 53)
  have HL := hd hl0
  clear h hb hl0 b0
  unfold opv
  obtain ⟨w0, hw0⟩ : ∃ w0, w0 = w.alloc (.cells #[.int .i64 4, .bool ow, .int .i64 oi, .int .i64 oa, .int .i64 ob, .slice a n c] 53) := ⟨_, rfl⟩
  rw [← hw0] at H HB BB HL
  have c0 := cell_row HL.out 0
  have c2 := cell_row HL.out 2
  have c3 := cell_row HL.out 3
  have c4 := cell_row HL.out 4
  have c5 := cell_row HL.out 5
  simp at c0 c2 c3 c4 c5
  have he : askE cl G ⟨4, ow, oi, oa, ob, xs⟩ = doubleE G.length oi := by
    unfold askE
    rw [if_neg (by simp), if_neg (show ¬ isOut 4 by unfold isOut; omega), if_pos rfl]
  have hg : askG cl G ⟨4, ow, oi, oa, ob, xs⟩ = doubleG G oi := by
    unfold askG
    rw [if_neg (by simp), if_neg (show ¬ isOut 4 by unfold isOut; omega), if_pos rfl]
  have HE := hd he
  have HG := hd hg
  clear he hg
  go_enter Try.func25, Try.ntmps25
  go_wp2_with fail
  rw [← hw0]
  clear hw0
  refine (double_any x cl G B S w0 H.out hB oi).mono ?_
  rintro e u ⟨rfl, hN⟩
  have Z : Hid (NowB w u x cl (doubleG G oi) (B + 1) S) := NowB.below hN BB.out
  clear hN
  go_wp2
  go_ret
  exact ⟨by rw [HE.out]; rfl, by rw [HG.out]; exact Z.out⟩

set_option maxRecDepth 100000 in
set_option maxHeartbeats 4000000 in
theorem asked_flip (x : Nat) (cl : Int) (G : List DG) (B : Nat) (S : Nat → Prop) (w : World) (h : NB w x cl G B S) (hB : B < 1000000000) (ok : Int) (ow : Bool) (oi oa ob : Int) (xs : List Int) (a : Option Addr) (n c : Nat) (hb : IsB w a n c xs) (h1 : ok ≠ 1) (h2 : ok ≠ 2) (h3 : ok ≠ 3) (h4 : ok ≠ 4) (h8 : ok ≠ 8) :
    Calls Try.prog 25 #[.pointer (some ⟨x, 0, none⟩), opv ⟨ok, ow, oi, oa, ob, xs⟩ a n c] w fun e w' => e = .returned (.int .i64 (askE cl G ⟨ok, ow, oi, oa, ob, xs⟩)) ∧ NowB w w' x cl (askG cl G ⟨ok, ow, oi, oa, ob, xs⟩) (B + 1) S := by
  have b0 : Below w.heap.size w (w.alloc (.cells #[.int .i64 ok, .bool ow, .int .i64 oi, .int .i64 oa, .int .i64 ob, .slice a n c] 53)) := (Below.refl _ _).alloc (Nat.le_refl _) _
  have H := hd (h.below b0)
  have HB := hd (hb.below b0)
  have BB := hd b0
  have HO := hd h.old
  have hl0 := heap_alloc_new w (.cells #[.int .i64 ok, .bool ow, .int .i64 oi, .int .i64 oa, .int .i64 ob, .slice a n c] 53)
  have HL := hd hl0
  clear h hb hl0 b0
  unfold opv
  obtain ⟨w0, hw0⟩ : ∃ w0, w0 = w.alloc (.cells #[.int .i64 ok, .bool ow, .int .i64 oi, .int .i64 oa, .int .i64 ob, .slice a n c] 53) := ⟨_, rfl⟩
  rw [← hw0] at H HB BB HL
  have c0 := cell_row HL.out 0
  have c2 := cell_row HL.out 2
  have c3 := cell_row HL.out 3
  have c4 := cell_row HL.out 4
  have c5 := cell_row HL.out 5
  simp at c0 c2 c3 c4 c5
  have he : askE cl G ⟨ok, ow, oi, oa, ob, xs⟩ = flipE G oi oa ob := by
    unfold askE
    rw [if_neg (by simp only; omega), if_neg (show ¬ isOut ok by unfold isOut; omega), if_neg h4]
  have hg : askG cl G ⟨ok, ow, oi, oa, ob, xs⟩ = flipG G oi oa ob := by
    unfold askG
    rw [if_neg (by simp only; omega), if_neg (show ¬ isOut ok by unfold isOut; omega), if_neg h4]
  have HE := hd he
  have HG := hd hg
  clear he hg
  go_enter Try.func25, Try.ntmps25
  go_wp2_with fail
  rw [← hw0]
  clear hw0
  refine (flip_any x cl G B S w0 H.out oi oa ob).mono ?_
  rintro e u ⟨rfl, k3, k4⟩
  have Z : Hid (NowB w u x cl (flipG G oi oa ob) (B + 1) S) := NowB.below (NowB.mono ⟨S, k3, fun k hk => .inl hk, k4⟩ (Nat.le_succ _)) BB.out
  clear k3 k4
  go_wp2
  go_ret
  exact ⟨by rw [HE.out]; rfl, by rw [HG.out]; exact Z.out⟩

theorem asked_any (x : Nat) (cl : Int) (G : List DG) (B : Nat) (S : Nat → Prop) (w : World) (h : NB w x cl G B S) (hB : B < 1000000000) (o : OpV) (a : Option Addr) (n c : Nat) (hb : IsB w a n c o.xs) :
    Calls Try.prog 25 #[.pointer (some ⟨x, 0, none⟩), opv o a n c] w fun e w' => e = .returned (.int .i64 (askE cl G o)) ∧ NowB w w' x cl (askG cl G o) (B + 1) S := by
  obtain ⟨ok, ow, oi, oa, ob, xs⟩ := o
  by_cases h1 : ok = 1
  · subst h1; exact asked_send1 x cl G B S w h hB ow oi oa ob xs a n c hb
  by_cases h8 : ok = 8
  · subst h8; exact asked_send8 x cl G B S w h hB ow oi oa ob xs a n c hb
  by_cases h2 : ok = 2
  · subst h2; exact asked_out2 x cl G B S w h hB ow oi oa ob xs a n c hb
  by_cases h3 : ok = 3
  · subst h3; exact asked_out3 x cl G B S w h hB ow oi oa ob xs a n c hb
  by_cases h4 : ok = 4
  · subst h4; exact asked_double x cl G B S w h hB ow oi oa ob xs a n c hb
  · exact asked_flip x cl G B S w h hB ok ow oi oa ob xs a n c hb h1 h2 h3 h4 h8

end Go.Proofs.Ytnglcnilckolkaa
