/-
  upTo, drop, DropTo.
-/
import Derived.Test.YtmbnimlibnheeabDoorSb
namespace Go.Proofs.YtmbnimlibnheeabDoor
open Go.RowKit
set_option linter.unusedVariables false

theorem wpList_clear_k {P : Program} (w : World) {ops : Array Oper} {rest : List Oper} {o : Oper} {a : Act} {Q : Exit → Act → World → Prop} (hgd : o.guard = none) (d : Operand) (t : TypeId)
    (ho : o.op = .call { callee := .builtin .clear, args := #[d], argTypes := #[t] }) (v : Value) (hd' : a.eval d = v) {v' : Value} {w' : World}
    (hr : (Builtin.clear_ #[t] o.type #[v]).run P w = .ok v' w') (h : wpList P ops Q rest (a.put o.dst v') w') : wpList P ops Q (o :: rest) a w := by
  refine wpList_plain hgd fun K hK => ?_
  unfold Oper.wp
  simp [execOp, ho, resolve, invoke, builtin, hd', hr, Result.andThen]
  exact hK _ _ h

set_option maxHeartbeats 4000000 in
set_option maxRecDepth 100000 in
theorem delI_row (g N c d : Nat) (xs : List Int) (w : World) (h0 : 0 < d) (hdN : d ≤ N) (hN : N ≤ 4096) (hc63 : c ≤ 9223372036854775807) (hNc : N ≤ c) (h : Hid (RowF ei 1 w g N c 3 xs)) :
    Calls Tryd.prog 44 #[.slice (some ⟨g, 0, none⟩) N c, .int .i64 0, .int .i64 d] w fun e w' => e = .returned (.slice (some ⟨g, 0, none⟩) (N - d) c) ∧ RowF ei 1 w' g (N - d) c 3 (xs.drop d) ∧ Fr (· = g) w w' := by
  obtain ⟨i0, hi0, hz0, hz1, hz2⟩ := info_parts Tryd.infoI
  obtain ⟨w1, w2, hap, hcr, hR, hF⟩ := row_cut sz_ei (P := Tryd.prog) w.drew 67 3 i0 _ Tryd.underlying67 hi0 hz0 hz1 rfl (fun v hv => by simp [Value.cells] at hv; subst hv; rfl) g N c d xs (h.out.fr (S := fun _ => False) (Fr.drew _ w) (fun h => h)) h0 hdN
  have R := hd (And.intro hR ((Fr.drew _ w).trans hF))
  simp only [Nat.mul_one] at hap hcr
  clear hR hF hi0 hz0 hz1 hz2
  have hb1 : (0 : Int) ≤ (d : Int) := by omega
  have hb2 : (d : Int) ≤ (N : Int) := by omega
  have hb3 : ¬ ((0 : Int) = (d : Int)) := by omega
  have hb4 : d ≤ c := by omega
  have hb5 : ¬ (c = N - d) := by omega
  have hb6 : N - (N - d) = d := by omega
  have hb7 : N - d ≤ N := by omega
  go_enter Tryd.func44, Tryd.ntmps44
  go_wp2_with fail
  by_cases hcd : c = d
  · subst hcd
    obtain rfl : N = c := by omega
    have hap0 : ∀ ty, (Builtin.append_ #[67, 67] ty #[.slice (some ⟨g, 0, none⟩) 0 N, .slice (some ⟨g, 0, none⟩) 0 0]).run Tryd.prog w.drew = .ok (.slice (some ⟨g, 0, none⟩) 0 N) w1 := fun ty => by
      have := hap ty ⟨g, 0, none⟩ 0 (.inl rfl)
      rwa [Nat.sub_self] at this
    rw [Nat.sub_self] at R hcr
    have hn0 : ¬ N = 0 := by omega
    clear hap hb5 hb6 hb7
    go_region_law (refine step_append_k rfl (.tmp 22) (.tmp 25) 67 67 rfl (.slice (some ⟨g, 0, none⟩) 0 N) (.slice (some ⟨g, 0, none⟩) 0 0) (by simp [Act.eval, Act.put]) (by simp [Act.eval, Act.put]) (hap0 _) ?_)
    go_wp2_with (at_builtin; refine wpList_clear_k _ rfl _ 67 rfl _ rfl (hcr _ _) ?_)
    go_ret
    rw [Nat.sub_self]
    exact ⟨rfl, R.out⟩
  · go_region_law (refine step_append_k rfl (.tmp 22) (.tmp 25) 67 67 rfl (.slice (some ⟨g, 0, none⟩) 0 c) (.slice (some ⟨g, d, none⟩) (N - d) (c - d)) (by simp [Act.eval, Act.put]) (by simp [Act.eval, Act.put]) (hap _ ⟨g, d, none⟩ _ (.inr rfl)) ?_)
    go_wp2_with (at_builtin; refine wpList_clear_k _ rfl _ 67 rfl _ rfl (hcr _ _) ?_)
    go_ret
    exact ⟨rfl, R.out⟩

set_option maxHeartbeats 1000000 in
theorem delI_any (β : Option Nat) (v : Value) (xs : List Int) (d : Nat) (w : World) (h : SF ei 1 w 3 β v xs) (hdN : d ≤ xs.length) (hN : xs.length ≤ 4096) :
    Calls Tryd.prog 44 #[v, .int .i64 0, .int .i64 d] w fun e w' => ∃ a n c, e = .returned (.slice a n c) ∧ SF ei 1 w' 3 β (.slice a n c) (xs.drop d) ∧ Fr (fun j => β = some j) w w' := by
  by_cases h0 : d = 0
  · subst h0
    obtain ⟨a, c, rfl, hc1, hc2⟩ := h.form
    have H := hd h
    generalize xs.length = n at *
    clear h
    go_enter Tryd.func44, Tryd.ntmps44
    go_wp2
    go_ret
    exact ⟨_, _, _, rfl, H.out, Fr.refl _ _⟩
  · cases β with
    | none =>
      obtain ⟨rfl, rfl⟩ := h
      simp at hdN
      omega
    | some g =>
      obtain ⟨c, rfl, hR⟩ := h
      have hR' := hR
      obtain ⟨cur, -, -, -, h1, h2, -⟩ := hR'
      refine (delI_row g xs.length c d xs w (by omega) hdN hN h2 h1 hR).mono ?_
      rintro e w' ⟨rfl, hR2, hF⟩
      refine ⟨_, _, _, rfl, ⟨c, by rw [List.length_drop], by rw [List.length_drop]; exact hR2⟩, hF.mono (fun k _ hk => by rw [hk])⟩

set_option maxHeartbeats 4000000 in
set_option maxRecDepth 100000 in
theorem delO_row (g N c d : Nat) (xs : List OpE) (w : World) (h0 : 0 < d) (hdN : d ≤ N) (hN : N ≤ 4096) (hc63 : c ≤ 9223372036854775807) (hNc : N ≤ c) (h : Hid (RowF opc 5 w g N c 37 xs)) :
    Calls Tryd.prog 45 #[.slice (some ⟨g, 0, none⟩) N c, .int .i64 0, .int .i64 d] w fun e w' => e = .returned (.slice (some ⟨g, 0, none⟩) (N - d) c) ∧ RowF opc 5 w' g (N - d) c 37 (xs.drop d) ∧ Fr (· = g) w w' := by
  obtain ⟨i0, hi0, hz0, hz1, hz2⟩ := info_parts Tryd.infoO
  obtain ⟨w1, w2, hap, hcr, hR, hF⟩ := row_cut sz_opc (P := Tryd.prog) w.drew 68 37 i0 _ Tryd.underlying68 hi0 hz0 hz1 rfl (fun v hv => by simp [Value.cells] at hv; rcases hv with rfl | rfl | rfl | rfl | rfl <;> rfl) g N c d xs (h.out.fr (S := fun _ => False) (Fr.drew _ w) (fun h => h)) h0 hdN
  have R := hd (And.intro hR ((Fr.drew _ w).trans hF))
  clear hR hF hi0 hz0 hz1 hz2
  have hb1 : (0 : Int) ≤ (d : Int) := by omega
  have hb2 : (d : Int) ≤ (N : Int) := by omega
  have hb3 : ¬ ((0 : Int) = (d : Int)) := by omega
  have hb4 : d ≤ c := by omega
  have hb5 : ¬ (c = N - d) := by omega
  have hb6 : N - (N - d) = d := by omega
  have hb7 : N - d ≤ N := by omega
  go_enter Tryd.func45, Tryd.ntmps45
  go_wp2_with fail
  by_cases hcd : c = d
  · subst hcd
    obtain rfl : N = c := by omega
    have hap0 : ∀ ty, (Builtin.append_ #[68, 68] ty #[.slice (some ⟨g, 0, none⟩) 0 N, .slice (some ⟨g, 0, none⟩) 0 0]).run Tryd.prog w.drew = .ok (.slice (some ⟨g, 0, none⟩) 0 N) w1 := fun ty => by
      have := hap ty ⟨g, 0, none⟩ 0 (.inl rfl)
      rwa [Nat.sub_self] at this
    rw [Nat.sub_self] at R hcr
    simp only [Nat.zero_mul] at hcr
    have hn0 : ¬ N = 0 := by omega
    clear hap hb5 hb6 hb7
    go_region_law (refine step_append_k rfl (.tmp 22) (.tmp 25) 68 68 rfl (.slice (some ⟨g, 0, none⟩) 0 N) (.slice (some ⟨g, 0, none⟩) 0 0) (by simp [Act.eval, Act.put]) (by simp [Act.eval, Act.put]) (hap0 _) ?_)
    go_wp2_with (at_builtin; refine wpList_clear_k _ rfl _ 68 rfl _ rfl (hcr _ _) ?_)
    go_ret
    rw [Nat.sub_self]
    exact ⟨rfl, R.out⟩
  · go_region_law (refine step_append_k rfl (.tmp 22) (.tmp 25) 68 68 rfl (.slice (some ⟨g, 0, none⟩) 0 c) (.slice (some ⟨g, d * 5, none⟩) (N - d) (c - d)) (by simp [Act.eval, Act.put]) (by simp [Act.eval, Act.put]) (hap _ ⟨g, d * 5, none⟩ _ (.inr rfl)) ?_)
    go_wp2_with (at_builtin; refine wpList_clear_k _ rfl _ 68 rfl _ rfl (hcr _ _) ?_)
    go_ret
    exact ⟨rfl, R.out⟩

set_option maxHeartbeats 1000000 in
theorem delO_any (β : Option Nat) (v : Value) (xs : List OpE) (d : Nat) (w : World) (h : SF opc 5 w 37 β v xs) (hdN : d ≤ xs.length) (hN : xs.length ≤ 4096) :
    Calls Tryd.prog 45 #[v, .int .i64 0, .int .i64 d] w fun e w' => ∃ a n c, e = .returned (.slice a n c) ∧ SF opc 5 w' 37 β (.slice a n c) (xs.drop d) ∧ Fr (fun j => β = some j) w w' := by
  by_cases h0 : d = 0
  · subst h0
    obtain ⟨a, c, rfl, hc1, hc2⟩ := h.form
    have H := hd h
    generalize xs.length = n at *
    clear h
    go_enter Tryd.func45, Tryd.ntmps45
    go_wp2
    go_ret
    exact ⟨_, _, _, rfl, H.out, Fr.refl _ _⟩
  · cases β with
    | none =>
      obtain ⟨rfl, rfl⟩ := h
      simp at hdN
      omega
    | some g =>
      obtain ⟨c, rfl, hR⟩ := h
      have hR' := hR
      obtain ⟨cur, -, -, -, h1, h2, -⟩ := hR'
      refine (delO_row g xs.length c d xs w (by omega) hdN hN h2 h1 hR).mono ?_
      rintro e w' ⟨rfl, hR2, hF⟩
      refine ⟨_, _, _, rfl, ⟨c, by rw [List.length_drop], by rw [List.length_drop]; exact hR2⟩, hF.mono (fun k _ hk => by rw [hk])⟩

section
variable {w w' : World} {x : Nat} {f : Bool} {ms : List Int} {os : List OpE} {last : Int} {vm vo : Value} {βm βo : Option Nat} {S : Nat → Prop}
/-- The row of marks stays, changed. -/
theorem now_marksS {v' : Value} {ms' : List Int} (h : SK w x f ms os last vm vo βm βo) (hSx : S x) (hSm : ∀ g, βm = some g → S g) (hSo : ∀ g, βo = some g → S g) (hS : ∀ k, S k → k < w.heap.size)
    (h1 : SF ei 1 w' 3 βm v' ms') (h3 : Fr (fun j => βm = some j) w w') : SK (w'.setCell ⟨x, 0, none⟩ v') x f ms' os last v' vo βm βo ∧ Fr S w (w'.setCell ⟨x, 0, none⟩ v') := by
  have hx := h3.keeps h.box (fun hb => h.m_ne hb)
  have hF : Fr (· = x) w' (w'.setCell ⟨x, 0, none⟩ v') := Fr.setCell _ _ _ rfl
  refine ⟨⟨?_, h1.fr hF (fun g hg he => h.m_ne (he ▸ hg)), (h.ro.fr h3 (fun g hg hm => h.mo_ne hm hg)).fr hF (fun g hg he => h.o_ne (he ▸ hg))⟩, (h3.mono (S' := S) (fun k _ hk => hSm k hk)).next hF (fun k _ hk => by rw [hk]; exact hSx)⟩
  have := set_row hx 0 v'
  simpa using this
theorem now_opsS {v' : Value} {os' : List OpE} (h : SK w x f ms os last vm vo βm βo) (hSx : S x) (hSm : ∀ g, βm = some g → S g) (hSo : ∀ g, βo = some g → S g) (hS : ∀ k, S k → k < w.heap.size)
    (h1 : SF opc 5 w' 37 βo v' os') (h3 : Fr (fun j => βo = some j) w w') : SK (w'.setCell ⟨x, 1, none⟩ v') x f ms os' last vm v' βm βo ∧ Fr S w (w'.setCell ⟨x, 1, none⟩ v') := by
  have hx := h3.keeps h.box (fun hb => h.o_ne hb)
  have hF : Fr (· = x) w' (w'.setCell ⟨x, 1, none⟩ v') := Fr.setCell _ _ _ rfl
  refine ⟨⟨?_, (h.rm.fr h3 (fun g hg hm => h.mo_ne hg hm)).fr hF (fun g hg he => h.m_ne (he ▸ hg)), h1.fr hF (fun g hg he => h.o_ne (he ▸ hg))⟩, (h3.mono (S' := S) (fun k _ hk => hSo k hk)).next hF (fun k _ hk => by rw [hk]; exact hSx)⟩
  have := set_row hx 1 v'
  simpa using this
end

set_option maxRecDepth 100000 in
set_option maxHeartbeats 4000000 in
theorem drop_any (x : Nat) (f : Bool) (ms : List Int) (os : List OpE) (last : Int) (d : Nat) (S : Nat → Prop) (w : World) (h : RAt w x f ms os last S) (hd1 : d ≤ ms.length) (hd2 : d ≤ os.length) (hl1 : ms.length ≤ 4096) (hl2 : os.length ≤ 4096) :
    Calls Tryd.prog 35 #[.pointer (some ⟨x, 0, none⟩), .int .i64 d] w fun e w' => e = .returned (.tuple #[]) ∧ RAt w' x f (ms.drop d) (os.drop d) last S ∧ Fr S w w' := by
  obtain ⟨vm, vo, βm, βo, hK, hSx, hSm, hSo, hS⟩ := h
  have c0 := cell_row hK.box 0
  simp at c0
  have HK := hd hK
  have HX := hd (And.intro hSx (And.intro hSm (And.intro hSo hS)))
  have HL := hd (And.intro hd1 (And.intro hd2 (And.intro hl1 hl2)))
  clear hK hSx hSm hSo hS hd1 hd2 hl1 hl2
  go_enter Tryd.func35, Tryd.ntmps35
  go_wp2_with fail
  refine (delI_any βm vm ms d w HK.out.rm HL.out.1 HL.out.2.2.1).mono ?_
  rintro e w1 ⟨a1, n1, e1, rfl, h1, h2⟩
  have M := now_marksS (S := S) HK.out HX.out.1 HX.out.2.1 HX.out.2.2.1 HX.out.2.2.2 h1 h2
  have hx1 := h2.keeps HK.out.box (fun hb => HK.out.m_ne hb)
  have d0 := cell_row hx1 0
  have d1 := cell_row hx1 1
  have f0 := frozen_row hx1 0
  simp at d0 d1
  have HM := hd M
  clear h1 h2 hx1 M
  go_wp2_with fail
  refine (delO_any βo vo os d _ HM.out.1.ro HL.out.2.1 HL.out.2.2.2).mono ?_
  rintro e w2 ⟨a2, n2, e2, rfl, h1, h2⟩
  have M := now_opsS (S := S) HM.out.1 HX.out.1 HX.out.2.1 HX.out.2.2.1 (fun k hk => Nat.lt_of_lt_of_le (HX.out.2.2.2 k hk) HM.out.2.size) h1 h2
  have hx1 := h2.keeps HM.out.1.box (fun hb => HM.out.1.o_ne hb)
  have g1 := cell_row hx1 1
  have f1 := frozen_row hx1 1
  simp at g1
  have HZ := hd M
  clear h1 h2 hx1 M d0 d1 f0 c0
  go_wp2
  refine bodyPost_end (v := .tuple #[]) (by simp [results, Tryd.results35, go_sem]) rfl ?_
  have hF := HM.out.2.trans HZ.out.2
  exact ⟨rfl, ⟨_, _, βm, βo, HZ.out.1, HX.out.1, HX.out.2.1, HX.out.2.2.1, fun k hk => Nat.lt_of_lt_of_le (HX.out.2.2.2 k hk) hF.size⟩, hF⟩

def upN (ms : List Int) (m : Int) : Nat := (ms.takeWhile (fun x => decide (x ≤ m))).length
theorem upN_le (ms : List Int) (m : Int) : upN ms m ≤ ms.length := (List.takeWhile_sublist _).length_le
theorem upN_pos {a m : Int} (ms : List Int) (h : a ≤ m) : upN (a :: ms) m = upN ms m + 1 := by
  unfold upN
  rw [List.takeWhile_cons_of_pos (by simpa using h), List.length_cons]
theorem upN_neg {a m : Int} (ms : List Int) (h : ¬ a ≤ m) : upN (a :: ms) m = 0 := by
  unfold upN
  rw [List.takeWhile_cons_of_neg (by simpa using h)]
  rfl
theorem upN_lt (ms : List Int) (m : Int) : ∀ (j : Nat) (h : j < upN ms m) (hj : j < ms.length), ms[j] ≤ m := by
  induction ms with
  | nil => intro j _ hj; simp at hj
  | cons a ms ih =>
    intro j h hj
    by_cases ha : a ≤ m
    · rw [upN_pos ms ha] at h
      cases j with
      | zero => simpa using ha
      | succ j => simpa using ih j (by omega) (by simpa using hj)
    · rw [upN_neg ms ha] at h
      omega
theorem upN_end (ms : List Int) (m : Int) : ∀ j (hj : j < ms.length), j = upN ms m → ¬ ms[j] ≤ m := by
  induction ms with
  | nil => intro j hj; simp at hj
  | cons a ms ih =>
    intro j hj h
    by_cases ha : a ≤ m
    · rw [upN_pos ms ha] at h
      subst h
      simpa using ih _ (by simpa using hj) rfl
    · rw [upN_neg ms ha] at h
      subst h
      simpa using ha
theorem dropN_up (p : Sp) (m : Int) : dropN p m = upN p.ms m := by
  unfold dropN upN Sp.ms
  rw [List.takeWhile_map, List.length_map]
  rfl
theorem dropQ_drop (q : List (Int × OpE)) (m : Int) : dropQ q m = q.drop (q.takeWhile (fun x => decide (x.1 ≤ m))).length := by
  unfold dropQ
  induction q with
  | nil => rfl
  | cons x q ih =>
    by_cases hx : x.1 ≤ m
    · rw [List.dropWhile_cons_of_pos (by simpa using hx), List.takeWhile_cons_of_pos (by simpa using hx), ih]
      simp
    · rw [List.dropWhile_cons_of_neg (by simpa using hx), List.takeWhile_cons_of_neg (by simpa using hx)]
      simp
theorem dropS_ms (p : Sp) (m : Int) : (dropS p m).ms = p.ms.drop (dropN p m) := by
  unfold dropS Sp.ms dropN
  simp only
  rw [dropQ_drop, List.map_drop]
theorem dropS_os (p : Sp) (m : Int) : (dropS p m).os = p.os.drop (dropN p m) := by
  unfold dropS Sp.os dropN
  simp only
  rw [dropQ_drop, List.map_drop]

set_option maxRecDepth 100000 in
set_option maxHeartbeats 4000000 in
theorem upTo_any (x : Nat) (f : Bool) (ms : List Int) (os : List OpE) (last m : Int) (S : Nat → Prop) (w : World) (h : RAt w x f ms os last S) (hl1 : ms.length ≤ 4096) :
    Calls Tryd.prog 34 #[.pointer (some ⟨x, 0, none⟩), .int .i64 m] w fun e w' => e = .returned (.int .i64 (upN ms m)) ∧ w' = w := by
  obtain ⟨vm, vo, βm, βo, hK, hSx, hSm, hSo, hS⟩ := h
  obtain ⟨a, c, hv, hc1, hc2⟩ := hK.rm.form
  subst hv
  have c0 := cell_row hK.box 0
  simp at c0
  have HU := hd (And.intro (upN_le ms m) (And.intro (upN_lt ms m) (upN_end ms m)))
  generalize upN ms m = U at *
  have HR := hd hK.rm
  obtain ⟨n, hn⟩ : ∃ n, ms.length = n := ⟨_, rfl⟩
  have HN := hd hn
  rw [hn] at c0 hc1 hl1 HR
  clear hK hSx hSm hSo hS hn
  go_enter Tryd.func34, Tryd.ntmps34
  go_wp2
  go_loopw [5] (fun i wr => ∃ j : Nat, j ≤ U ∧ i = .int .i64 j ∧ wr = w) (fun i _ => U - (intOf i).toNat)
  case atStart => exact ⟨0, Nat.zero_le _, rfl, rfl⟩
  case round =>
    obtain ⟨j, hj, rfl, rfl⟩ := hrel
    obtain ⟨u1, u2, u3⟩ := HU.out
    have n1 := HN.out
    by_cases hjn : j < n
    · have jm : j < ms.length := by omega
      obtain ⟨g, rfl, hca⟩ : ∃ g, a = some ⟨g, 0, none⟩ ∧ wr.cell? ⟨g, j, none⟩ = some (.int .i64 ms[j]) := by
        have hr := HR.out
        cases βm with
        | none =>
          obtain ⟨h1, h2⟩ := hr
          subst h2
          simp at jm
        | some g' =>
          obtain ⟨cap, h1, hR⟩ := hr
          injection h1 with h1 h2 h3
          refine ⟨g', h1, ?_⟩
          have := hR.cell sz_ei j 0 jm (by omega)
          simpa [ei] using this
      have i1 : (j : Int) < (n : Int) := by omega
      by_cases hju : j < U
      · have i2 := u2 j hju jm
        generalize ms[j] = y at *
        clear u1 u2 u3 HU HR HN n1
        go_wp2
        exact ⟨⟨j + 1, by omega, by go_num, by first | rfl | trivial⟩, by simp [intOf]; omega⟩
      · obtain rfl : j = U := by omega
        have i2 := u3 j jm rfl
        generalize ms[j] = y at *
        clear u1 u2 u3 HU HR HN n1
        go_wp2
        go_ret
        exact ⟨rfl, rfl⟩
    · obtain rfl : j = U := by omega
      have i1 : ¬ (j : Int) < (n : Int) := by omega
      clear u1 u2 u3 HU HR HN n1
      go_wp2
      go_ret
      exact ⟨rfl, rfl⟩

set_option maxRecDepth 100000 in
set_option maxHeartbeats 4000000 in
theorem dropTo_any (x : Nat) (p : Sp) (m : Int) (S : Nat → Prop) (w : World) (h : SpAt w x p S) :
    Calls Tryd.prog 21 #[.pointer (some ⟨x, 0, none⟩), .int .i64 m] w fun e w' => e = .returned (.int .i64 (dropN p m)) ∧ SpAt w' x (dropS p m) S ∧ Fr S w w' := by
  have HO := hd (dropS_ok h.2 m)
  have hl := h.2
  have l1 : p.ms.length ≤ 4096 := by rw [Sp.ms_len]; have := hl.n; have := hl.m; omega
  have l2 : p.os.length ≤ 4096 := by rw [Sp.os_len]; have := hl.n; have := hl.m; omega
  have l3 : dropN p m ≤ p.ms.length := by rw [dropN_up]; exact upN_le _ _
  have l4 : dropN p m ≤ p.os.length := by rw [Sp.os_len, ← Sp.ms_len]; exact l3
  have HL := hd (And.intro l3 (And.intro l4 (And.intro l1 l2)))
  have HH := hd h
  have HU := hd (dropN_up p m)
  have Hm := hd (And.intro (dropS_ms p m) (dropS_os p m))
  generalize dropN p m = U at *
  clear h hl l1 l2 l3 l4
  go_enter Tryd.func21, Tryd.ntmps21
  go_wp2_with fail
  refine (upTo_any x p.f p.ms p.os p.last m S w HH.out.1 HL.out.2.2.1).mono ?_
  rintro e w1 ⟨rfl, hw1⟩
  subst hw1
  rw [← HU.out]
  go_wp2_with fail
  refine (drop_any x p.f p.ms p.os p.last U S w1 HH.out.1 HL.out.1 HL.out.2.1 HL.out.2.2.1 HL.out.2.2.2).mono ?_
  rintro e w2 ⟨rfl, h1, h2⟩
  have Z : Hid (SpAt w2 x (dropS p m) S ∧ Fr S w1 w2) := ⟨⟨by rw [Hm.out.1, Hm.out.2]; exact h1, HO.out⟩, h2⟩
  clear h1 h2
  go_wp2
  go_ret
  exact ⟨rfl, Z.out⟩

end Go.Proofs.YtmbnimlibnheeabDoor
