/-
  Texts put together: Sc Sd Mo.
-/
import Derived.Test.YtilidolbplglcaaGreatDoorMDi
/-! Sc -/
namespace Go.Proofs.YtilidolbplglcaaGreatDoor
open Go.RowKit
set_option linter.unusedVariables false

theorem wpList_clear_ks {P : Program} (w : World) {ops : Array Oper} {rest : List Oper} {o : Oper} {a : Act} {Q : Exit → Act → World → Prop} (hgd : o.guard = none) (d : Operand) (t : TypeId)
    (ho : o.op = .call { callee := .builtin .clear, args := #[d], argTypes := #[t] }) (v : Value) (hd' : a.eval d = v) {v' : Value} {w' : World}
    (hr : (Builtin.clear_ #[t] o.type #[v]).run P w = .ok v' w') (h : wpList P ops Q rest (a.put o.dst v') w') : wpList P ops Q (o :: rest) a w := by
  refine wpList_plain hgd fun K hK => ?_
  unfold Oper.wp
  simp [execOp, ho, resolve, invoke, builtin, hd', hr, Result.andThen]
  exact hK _ _ h

set_option maxHeartbeats 4000000 in
set_option maxRecDepth 100000 in
theorem delI_row (g N c d : Nat) (xs : List Int) (w : World) (h0 : 0 < d) (hdN : d ≤ N) (hN : N ≤ 4096) (hc63 : c ≤ 9223372036854775807) (hNc : N ≤ c) (h : Hid (RowF ei 1 w g N c 3 xs)) :
    Calls Tryz.prog 77 #[.slice (some ⟨g, 0, none⟩) N c, .int .i64 0, .int .i64 d] w fun e w' => e = .returned (.slice (some ⟨g, 0, none⟩) (N - d) c) ∧ RowF ei 1 w' g (N - d) c 3 (xs.drop d) ∧ Fr (· = g) w w' := by
  obtain ⟨i0, hi0, hz0, hz1, hz2⟩ := info_parts Tryz.infoI
  obtain ⟨w1, w2, hap, hcr, hR, hF⟩ := row_cut sz_ei (P := Tryz.prog) w.drew 54 3 i0 _ Tryz.underlying54 hi0 hz0 hz1 rfl (fun v hv => by simp [Value.cells] at hv; subst hv; rfl) g N c d xs (h.out.fr (S := fun _ => False) (Fr.drew _ w) (fun h => h)) h0 hdN
  have R := hd (And.intro hR ((Fr.drew _ w).trans hF))
  simp only [Nat.mul_one] at hap hcr
  clear hR hF hi0 hz0 hz1 hz2
  have hb1 : (0 : Int) ≤ (d : Int) := by omega
  have hb2 : (d : Int) ≤ (N : Int) := by omega
  have hb3 : ¬ ((0 : Int) = (d : Int)) := by omega
  have hb4 : d ≤ c := by omega
  have hb5 : ¬ (c = N - d) := by omega
  have hb6 : N - (N - d) = d := by omega
  have hb7 : N - d ≤ N := by omega
  go_enter Tryz.func77, Tryz.ntmps77
  go_wp2_with fail
  by_cases hcd : c = d
  · subst hcd
    obtain rfl : N = c := by omega
    have hap0 : ∀ ty, (Builtin.append_ #[54, 54] ty #[.slice (some ⟨g, 0, none⟩) 0 N, .slice (some ⟨g, 0, none⟩) 0 0]).run Tryz.prog w.drew = .ok (.slice (some ⟨g, 0, none⟩) 0 N) w1 := fun ty => by
      have := hap ty ⟨g, 0, none⟩ 0 (.inl rfl)
      rwa [Nat.sub_self] at this
    rw [Nat.sub_self] at R hcr
    have hn0 : ¬ N = 0 := by omega
    clear hap hb5 hb6 hb7
    go_region_law (refine step_append_k rfl (.tmp 22) (.tmp 25) 54 54 rfl (.slice (some ⟨g, 0, none⟩) 0 N) (.slice (some ⟨g, 0, none⟩) 0 0) (by simp [Act.eval, Act.put]) (by simp [Act.eval, Act.put]) (hap0 _) ?_)
    go_wp2_with (at_builtin; refine wpList_clear_ks _ rfl _ 54 rfl _ rfl (hcr _ _) ?_)
    go_ret
    rw [Nat.sub_self]
    exact ⟨rfl, R.out⟩
  · go_region_law (refine step_append_k rfl (.tmp 22) (.tmp 25) 54 54 rfl (.slice (some ⟨g, 0, none⟩) 0 c) (.slice (some ⟨g, d, none⟩) (N - d) (c - d)) (by simp [Act.eval, Act.put]) (by simp [Act.eval, Act.put]) (hap _ ⟨g, d, none⟩ _ (.inr rfl)) ?_)
    go_wp2_with (at_builtin; refine wpList_clear_ks _ rfl _ 54 rfl _ rfl (hcr _ _) ?_)
    go_ret
    exact ⟨rfl, R.out⟩

set_option maxHeartbeats 1000000 in
theorem delI_any (β : Option Nat) (v : Value) (xs : List Int) (d : Nat) (w : World) (h : SF ei 1 w 3 β v xs) (hdN : d ≤ xs.length) (hN : xs.length ≤ 4096) :
    Calls Tryz.prog 77 #[v, .int .i64 0, .int .i64 d] w fun e w' => ∃ a n c, e = .returned (.slice a n c) ∧ SF ei 1 w' 3 β (.slice a n c) (xs.drop d) ∧ Fr (fun j => β = some j) w w' := by
  by_cases h0 : d = 0
  · subst h0
    obtain ⟨a, c, rfl, hc1, hc2⟩ := h.form
    have H := hd h
    generalize xs.length = n at *
    clear h
    go_enter Tryz.func77, Tryz.ntmps77
    go_wp2
    go_ret
    exact ⟨_, _, _, rfl, H.out, Fr.refl _ _⟩
  · cases β with
    | none =>
      obtain ⟨rfl, rfl⟩ := h
      simp at hdN
      omega
    | some g =>
      obtain ⟨c, rfl, hR⟩ := h
      have hR' := hR
      obtain ⟨cur, -, -, -, h1, h2, -⟩ := hR'
      refine (delI_row g xs.length c d xs w (by omega) hdN hN h2 h1 hR).mono ?_
      rintro e w' ⟨rfl, hR2, hF⟩
      refine ⟨_, _, _, rfl, ⟨c, by rw [List.length_drop], by rw [List.length_drop]; exact hR2⟩, hF.mono (fun k _ hk => by rw [hk])⟩

set_option maxHeartbeats 4000000 in
set_option maxRecDepth 100000 in
theorem delO_row (g N c d : Nat) (xs : List OpE) (w : World) (h0 : 0 < d) (hdN : d ≤ N) (hN : N ≤ 4096) (hc63 : c ≤ 9223372036854775807) (hNc : N ≤ c) (h : Hid (RowF opc 5 w g N c 46 xs)) :
    Calls Tryz.prog 78 #[.slice (some ⟨g, 0, none⟩) N c, .int .i64 0, .int .i64 d] w fun e w' => e = .returned (.slice (some ⟨g, 0, none⟩) (N - d) c) ∧ RowF opc 5 w' g (N - d) c 46 (xs.drop d) ∧ Fr (· = g) w w' := by
  obtain ⟨i0, hi0, hz0, hz1, hz2⟩ := info_parts Tryz.infoO
  obtain ⟨w1, w2, hap, hcr, hR, hF⟩ := row_cut sz_opc (P := Tryz.prog) w.drew 24 46 i0 _ Tryz.underlying24 hi0 hz0 hz1 rfl (fun v hv => by simp [Value.cells] at hv; rcases hv with rfl | rfl | rfl | rfl | rfl <;> rfl) g N c d xs (h.out.fr (S := fun _ => False) (Fr.drew _ w) (fun h => h)) h0 hdN
  have R := hd (And.intro hR ((Fr.drew _ w).trans hF))
  clear hR hF hi0 hz0 hz1 hz2
  have hb1 : (0 : Int) ≤ (d : Int) := by omega
  have hb2 : (d : Int) ≤ (N : Int) := by omega
  have hb3 : ¬ ((0 : Int) = (d : Int)) := by omega
  have hb4 : d ≤ c := by omega
  have hb5 : ¬ (c = N - d) := by omega
  have hb6 : N - (N - d) = d := by omega
  have hb7 : N - d ≤ N := by omega
  go_enter Tryz.func78, Tryz.ntmps78
  go_wp2_with fail
  by_cases hcd : c = d
  · subst hcd
    obtain rfl : N = c := by omega
    have hap0 : ∀ ty, (Builtin.append_ #[24, 24] ty #[.slice (some ⟨g, 0, none⟩) 0 N, .slice (some ⟨g, 0, none⟩) 0 0]).run Tryz.prog w.drew = .ok (.slice (some ⟨g, 0, none⟩) 0 N) w1 := fun ty => by
      have := hap ty ⟨g, 0, none⟩ 0 (.inl rfl)
      rwa [Nat.sub_self] at this
    rw [Nat.sub_self] at R hcr
    simp only [Nat.zero_mul] at hcr
    have hn0 : ¬ N = 0 := by omega
    clear hap hb5 hb6 hb7
    go_region_law (refine step_append_k rfl (.tmp 22) (.tmp 25) 24 24 rfl (.slice (some ⟨g, 0, none⟩) 0 N) (.slice (some ⟨g, 0, none⟩) 0 0) (by simp [Act.eval, Act.put]) (by simp [Act.eval, Act.put]) (hap0 _) ?_)
    go_wp2_with (at_builtin; refine wpList_clear_ks _ rfl _ 24 rfl _ rfl (hcr _ _) ?_)
    go_ret
    rw [Nat.sub_self]
    exact ⟨rfl, R.out⟩
  · go_region_law (refine step_append_k rfl (.tmp 22) (.tmp 25) 24 24 rfl (.slice (some ⟨g, 0, none⟩) 0 c) (.slice (some ⟨g, d * 5, none⟩) (N - d) (c - d)) (by simp [Act.eval, Act.put]) (by simp [Act.eval, Act.put]) (hap _ ⟨g, d * 5, none⟩ _ (.inr rfl)) ?_)
    go_wp2_with (at_builtin; refine wpList_clear_ks _ rfl _ 24 rfl _ rfl (hcr _ _) ?_)
    go_ret
    exact ⟨rfl, R.out⟩

set_option maxHeartbeats 1000000 in
theorem delO_any (β : Option Nat) (v : Value) (xs : List OpE) (d : Nat) (w : World) (h : SF opc 5 w 46 β v xs) (hdN : d ≤ xs.length) (hN : xs.length ≤ 4096) :
    Calls Tryz.prog 78 #[v, .int .i64 0, .int .i64 d] w fun e w' => ∃ a n c, e = .returned (.slice a n c) ∧ SF opc 5 w' 46 β (.slice a n c) (xs.drop d) ∧ Fr (fun j => β = some j) w w' := by
  by_cases h0 : d = 0
  · subst h0
    obtain ⟨a, c, rfl, hc1, hc2⟩ := h.form
    have H := hd h
    generalize xs.length = n at *
    clear h
    go_enter Tryz.func78, Tryz.ntmps78
    go_wp2
    go_ret
    exact ⟨_, _, _, rfl, H.out, Fr.refl _ _⟩
  · cases β with
    | none =>
      obtain ⟨rfl, rfl⟩ := h
      simp at hdN
      omega
    | some g =>
      obtain ⟨c, rfl, hR⟩ := h
      have hR' := hR
      obtain ⟨cur, -, -, -, h1, h2, -⟩ := hR'
      refine (delO_row g xs.length c d xs w (by omega) hdN hN h2 h1 hR).mono ?_
      rintro e w' ⟨rfl, hR2, hF⟩
      refine ⟨_, _, _, rfl, ⟨c, by rw [List.length_drop], by rw [List.length_drop]; exact hR2⟩, hF.mono (fun k _ hk => by rw [hk])⟩

section
variable {w w' : World} {x : Nat} {f : Bool} {ms : List Int} {os : List OpE} {last : Int} {vm vo : Value} {βm βo : Option Nat} {S : Nat → Prop}
/-- The row of marks stays, changed. -/
theorem now_marksS {v' : Value} {ms' : List Int} (h : SK w x f ms os last vm vo βm βo) (hSx : S x) (hSm : ∀ g, βm = some g → S g) (hSo : ∀ g, βo = some g → S g) (hS : ∀ k, S k → k < w.heap.size)
    (h1 : SF ei 1 w' 3 βm v' ms') (h3 : Fr (fun j => βm = some j) w w') : SK (w'.setCell ⟨x, 0, none⟩ v') x f ms' os last v' vo βm βo ∧ Fr S w (w'.setCell ⟨x, 0, none⟩ v') := by
  have hx := h3.keeps h.box (fun hb => h.m_ne hb)
  have hF : Fr (· = x) w' (w'.setCell ⟨x, 0, none⟩ v') := Fr.setCell _ _ _ rfl
  refine ⟨⟨?_, h1.fr hF (fun g hg he => h.m_ne (he ▸ hg)), (h.ro.fr h3 (fun g hg hm => h.mo_ne hm hg)).fr hF (fun g hg he => h.o_ne (he ▸ hg))⟩, (h3.mono (S' := S) (fun k _ hk => hSm k hk)).next hF (fun k _ hk => by rw [hk]; exact hSx)⟩
  have := set_row hx 0 v'
  simpa using this
theorem now_opsS {v' : Value} {os' : List OpE} (h : SK w x f ms os last vm vo βm βo) (hSx : S x) (hSm : ∀ g, βm = some g → S g) (hSo : ∀ g, βo = some g → S g) (hS : ∀ k, S k → k < w.heap.size)
    (h1 : SF opc 5 w' 46 βo v' os') (h3 : Fr (fun j => βo = some j) w w') : SK (w'.setCell ⟨x, 1, none⟩ v') x f ms os' last vm v' βm βo ∧ Fr S w (w'.setCell ⟨x, 1, none⟩ v') := by
  have hx := h3.keeps h.box (fun hb => h.o_ne hb)
  have hF : Fr (· = x) w' (w'.setCell ⟨x, 1, none⟩ v') := Fr.setCell _ _ _ rfl
  refine ⟨⟨?_, (h.rm.fr h3 (fun g hg hm => h.mo_ne hg hm)).fr hF (fun g hg he => h.m_ne (he ▸ hg)), h1.fr hF (fun g hg he => h.o_ne (he ▸ hg))⟩, (h3.mono (S' := S) (fun k _ hk => hSo k hk)).next hF (fun k _ hk => by rw [hk]; exact hSx)⟩
  have := set_row hx 1 v'
  simpa using this
end

set_option maxRecDepth 100000 in
set_option maxHeartbeats 4000000 in
theorem drop_any (x : Nat) (f : Bool) (ms : List Int) (os : List OpE) (last : Int) (d : Nat) (S : Nat → Prop) (w : World) (h : RAt w x f ms os last S) (hd1 : d ≤ ms.length) (hd2 : d ≤ os.length) (hl1 : ms.length ≤ 4096) (hl2 : os.length ≤ 4096) :
    Calls Tryz.prog 65 #[.pointer (some ⟨x, 0, none⟩), .int .i64 d] w fun e w' => e = .returned (.tuple #[]) ∧ RAt w' x f (ms.drop d) (os.drop d) last S ∧ Fr S w w' := by
  obtain ⟨vm, vo, βm, βo, hK, hSx, hSm, hSo, hS⟩ := h
  have c0 := cell_row hK.box 0
  simp at c0
  have HK := hd hK
  have HX := hd (And.intro hSx (And.intro hSm (And.intro hSo hS)))
  have HL := hd (And.intro hd1 (And.intro hd2 (And.intro hl1 hl2)))
  clear hK hSx hSm hSo hS hd1 hd2 hl1 hl2
  go_enter Tryz.func65, Tryz.ntmps65
  go_wp2_with fail
  refine (delI_any βm vm ms d w HK.out.rm HL.out.1 HL.out.2.2.1).mono ?_
  rintro e w1 ⟨a1, n1, e1, rfl, h1, h2⟩
  have M := now_marksS (S := S) HK.out HX.out.1 HX.out.2.1 HX.out.2.2.1 HX.out.2.2.2 h1 h2
  have hx1 := h2.keeps HK.out.box (fun hb => HK.out.m_ne hb)
  have d0 := cell_row hx1 0
  have d1 := cell_row hx1 1
  have f0 := frozen_row hx1 0
  simp at d0 d1
  have HM := hd M
  clear h1 h2 hx1 M
  go_wp2_with fail
  refine (delO_any βo vo os d _ HM.out.1.ro HL.out.2.1 HL.out.2.2.2).mono ?_
  rintro e w2 ⟨a2, n2, e2, rfl, h1, h2⟩
  have M := now_opsS (S := S) HM.out.1 HX.out.1 HX.out.2.1 HX.out.2.2.1 (fun k hk => Nat.lt_of_lt_of_le (HX.out.2.2.2 k hk) HM.out.2.size) h1 h2
  have hx1 := h2.keeps HM.out.1.box (fun hb => HM.out.1.o_ne hb)
  have g1 := cell_row hx1 1
  have f1 := frozen_row hx1 1
  simp at g1
  have HZ := hd M
  clear h1 h2 hx1 M d0 d1 f0 c0
  go_wp2
  refine bodyPost_end (v := .tuple #[]) (by simp [results, Tryz.results65, go_sem]) rfl ?_
  have hF := HM.out.2.trans HZ.out.2
  exact ⟨rfl, ⟨_, _, βm, βo, HZ.out.1, HX.out.1, HX.out.2.1, HX.out.2.2.1, fun k hk => Nat.lt_of_lt_of_le (HX.out.2.2.2 k hk) hF.size⟩, hF⟩

def upN (ms : List Int) (m : Int) : Nat := (ms.takeWhile (fun x => decide (x ≤ m))).length
theorem upN_le (ms : List Int) (m : Int) : upN ms m ≤ ms.length := (List.takeWhile_sublist _).length_le
theorem upN_pos {a m : Int} (ms : List Int) (h : a ≤ m) : upN (a :: ms) m = upN ms m + 1 := by
  unfold upN
  rw [List.takeWhile_cons_of_pos (by simpa using h), List.length_cons]
theorem upN_neg {a m : Int} (ms : List Int) (h : ¬ a ≤ m) : upN (a :: ms) m = 0 := by
  unfold upN
  rw [List.takeWhile_cons_of_neg (by simpa using h)]
  rfl
theorem upN_lt (ms : List Int) (m : Int) : ∀ (j : Nat) (h : j < upN ms m) (hj : j < ms.length), ms[j] ≤ m := by
  induction ms with
  | nil => intro j _ hj; simp at hj
  | cons a ms ih =>
    intro j h hj
    by_cases ha : a ≤ m
    · rw [upN_pos ms ha] at h
      cases j with
      | zero => simpa using ha
      | succ j => simpa using ih j (by omega) (by simpa using hj)
    · rw [upN_neg ms ha] at h
      omega
theorem upN_end (ms : List Int) (m : Int) : ∀ j (hj : j < ms.length), j = upN ms m → ¬ ms[j] ≤ m := by
  induction ms with
  | nil => intro j hj; simp at hj
  | cons a ms ih =>
    intro j hj h
    by_cases ha : a ≤ m
    · rw [upN_pos ms ha] at h
      subst h
      simpa using ih _ (by simpa using hj) rfl
    · rw [upN_neg ms ha] at h
      subst h
      simpa using ha
theorem dropN_up (p : Sp) (m : Int) : dropN p m = upN p.ms m := by
  unfold dropN upN Sp.ms
  rw [List.takeWhile_map, List.length_map]
  rfl
theorem dropQ_drop (q : List (Int × OpE)) (m : Int) : dropQ q m = q.drop (q.takeWhile (fun x => decide (x.1 ≤ m))).length := by
  unfold dropQ
  induction q with
  | nil => rfl
  | cons x q ih =>
    by_cases hx : x.1 ≤ m
    · rw [List.dropWhile_cons_of_pos (by simpa using hx), List.takeWhile_cons_of_pos (by simpa using hx), ih]
      simp
    · rw [List.dropWhile_cons_of_neg (by simpa using hx), List.takeWhile_cons_of_neg (by simpa using hx)]
      simp
theorem dropS_ms (p : Sp) (m : Int) : (dropS p m).ms = p.ms.drop (dropN p m) := by
  unfold dropS Sp.ms dropN
  simp only
  rw [dropQ_drop, List.map_drop]
theorem dropS_os (p : Sp) (m : Int) : (dropS p m).os = p.os.drop (dropN p m) := by
  unfold dropS Sp.os dropN
  simp only
  rw [dropQ_drop, List.map_drop]

set_option maxRecDepth 100000 in
set_option maxHeartbeats 4000000 in
theorem upTo_any (x : Nat) (f : Bool) (ms : List Int) (os : List OpE) (last m : Int) (S : Nat → Prop) (w : World) (h : RAt w x f ms os last S) (hl1 : ms.length ≤ 4096) :
    Calls Tryz.prog 64 #[.pointer (some ⟨x, 0, none⟩), .int .i64 m] w fun e w' => e = .returned (.int .i64 (upN ms m)) ∧ w' = w := by
  obtain ⟨vm, vo, βm, βo, hK, hSx, hSm, hSo, hS⟩ := h
  obtain ⟨a, c, hv, hc1, hc2⟩ := hK.rm.form
  subst hv
  have c0 := cell_row hK.box 0
  simp at c0
  have HU := hd (And.intro (upN_le ms m) (And.intro (upN_lt ms m) (upN_end ms m)))
  generalize upN ms m = U at *
  have HR := hd hK.rm
  obtain ⟨n, hn⟩ : ∃ n, ms.length = n := ⟨_, rfl⟩
  have HN := hd hn
  rw [hn] at c0 hc1 hl1 HR
  clear hK hSx hSm hSo hS hn
  go_enter Tryz.func64, Tryz.ntmps64
  go_wp2
  go_loopw [5] (fun i wr => ∃ j : Nat, j ≤ U ∧ i = .int .i64 j ∧ wr = w) (fun i _ => U - (intOf i).toNat)
  case atStart => exact ⟨0, Nat.zero_le _, rfl, rfl⟩
  case round =>
    obtain ⟨j, hj, rfl, rfl⟩ := hrel
    obtain ⟨u1, u2, u3⟩ := HU.out
    have n1 := HN.out
    by_cases hjn : j < n
    · have jm : j < ms.length := by omega
      obtain ⟨g, rfl, hca⟩ : ∃ g, a = some ⟨g, 0, none⟩ ∧ wr.cell? ⟨g, j, none⟩ = some (.int .i64 ms[j]) := by
        have hr := HR.out
        cases βm with
        | none =>
          obtain ⟨h1, h2⟩ := hr
          subst h2
          simp at jm
        | some g' =>
          obtain ⟨cap, h1, hR⟩ := hr
          injection h1 with h1 h2 h3
          refine ⟨g', h1, ?_⟩
          have := hR.cell sz_ei j 0 jm (by omega)
          simpa [ei] using this
      have i1 : (j : Int) < (n : Int) := by omega
      by_cases hju : j < U
      · have i2 := u2 j hju jm
        generalize ms[j] = y at *
        clear u1 u2 u3 HU HR HN n1
        go_wp2
        exact ⟨⟨j + 1, by omega, by go_num, by first | rfl | trivial⟩, by simp [intOf]; omega⟩
      · obtain rfl : j = U := by omega
        have i2 := u3 j jm rfl
        generalize ms[j] = y at *
        clear u1 u2 u3 HU HR HN n1
        go_wp2
        go_ret
        exact ⟨rfl, rfl⟩
    · obtain rfl : j = U := by omega
      have i1 : ¬ (j : Int) < (n : Int) := by omega
      clear u1 u2 u3 HU HR HN n1
      go_wp2
      go_ret
      exact ⟨rfl, rfl⟩

set_option maxRecDepth 100000 in
set_option maxHeartbeats 4000000 in
theorem dropTo_any (x : Nat) (p : Sp) (m : Int) (S : Nat → Prop) (w : World) (h : SpAt w x p S) :
    Calls Tryz.prog 48 #[.pointer (some ⟨x, 0, none⟩), .int .i64 m] w fun e w' => e = .returned (.int .i64 (dropN p m)) ∧ SpAt w' x (dropS p m) S ∧ Fr S w w' := by
  have HO := hd (dropS_ok h.2 m)
  have hl := h.2
  have l1 : p.ms.length ≤ 4096 := by rw [Sp.ms_len]; have := hl.n; have := hl.m; omega
  have l2 : p.os.length ≤ 4096 := by rw [Sp.os_len]; have := hl.n; have := hl.m; omega
  have l3 : dropN p m ≤ p.ms.length := by rw [dropN_up]; exact upN_le _ _
  have l4 : dropN p m ≤ p.os.length := by rw [Sp.os_len, ← Sp.ms_len]; exact l3
  have HL := hd (And.intro l3 (And.intro l4 (And.intro l1 l2)))
  have HH := hd h
  have HU := hd (dropN_up p m)
  have Hm := hd (And.intro (dropS_ms p m) (dropS_os p m))
  generalize dropN p m = U at *
  clear h hl l1 l2 l3 l4
  go_enter Tryz.func48, Tryz.ntmps48
  go_wp2_with fail
  refine (upTo_any x p.f p.ms p.os p.last m S w HH.out.1 HL.out.2.2.1).mono ?_
  rintro e w1 ⟨rfl, hw1⟩
  subst hw1
  rw [← HU.out]
  go_wp2_with fail
  refine (drop_any x p.f p.ms p.os p.last U S w1 HH.out.1 HL.out.1 HL.out.2.1 HL.out.2.2.1 HL.out.2.2.2).mono ?_
  rintro e w2 ⟨rfl, h1, h2⟩
  have Z : Hid (SpAt w2 x (dropS p m) S ∧ Fr S w1 w2) := ⟨⟨by rw [Hm.out.1, Hm.out.2]; exact h1, HO.out⟩, h2⟩
  clear h1 h2
  go_wp2
  go_ret
  exact ⟨rfl, Z.out⟩

end Go.Proofs.YtilidolbplglcaaGreatDoor

/-! Sd -/
namespace Go.Proofs.YtilidolbplglcaaGreatDoor
open Go.RowKit
set_option linter.unusedVariables false

def mkd (x : Int × OpE) : List Value := [.int .i64 x.1, .int .i64 x.2.kind, .int .i64 x.2.pos, .int .u8 x.2.ch, .int .i64 x.2.cl, .int .i64 x.2.sq]
theorem sz_mkd : Sz mkd 6 := fun x => ⟨rfl, fun v hv => by simp [mkd] at hv; rcases hv with rfl | rfl | rfl | rfl | rfl | rfl <;> rfl⟩
theorem Tryz.infoM : (Tryz.prog.info? 129).map (fun i => (i.zero, i.size, i.bytes)) = some (some (.agg #[.int .i64 0, .int .i64 0, .int .i64 0, .int .u8 0, .int .i64 0, .int .i64 0]), 6, 48) := by kernel_rfl

/-- append of one marked operation. -/
theorem push_mk (w : World) (β : Option Nat) (v : Value) (xs : List (Int × OpE)) (hv : SF mkd 6 w 129 β v xs) (b : Nat) (x : Int × OpE) (hb : w.heap[b]? = some (.cells (mkd x).toArray 129 (0, 0))) (hn : xs.length ≤ 100000) :
    ∃ v' w', (∀ ty, (Builtin.append_ #[126, 126] ty #[v, .slice (some ⟨b, 0, none⟩) 1 1]).run Tryz.prog w = .ok v' w') ∧ NowF mkd 6 w w' 129 β v' (xs ++ [x]) := by
  obtain ⟨i0, hi0, hz0, hz1, hz2⟩ := info_parts Tryz.infoM
  obtain ⟨v', w', hr, hN⟩ := run_pushF sz_mkd (P := Tryz.prog) w 126 0 129 i0 _ 48 Tryz.underlying126 hi0 hz0 hz1 rfl hz2 β v xs hv ⟨b, 0, none⟩ 1 1 [x] rfl (fun j u hj => by
    rw [cl_one] at hj
    rw [add_lit, cell_row hb, List.getElem?_toArray, Nat.zero_add]
    exact hj) (by omega) (by omega) (by omega)
  exact ⟨v', w', fun ty => hr, hN⟩

theorem row_empty {α : Type} {f : α → List Value} {k : Nat} {w : World} {g cap : Nat} {e : TypeId} {z : Array Value} {cur : List Value} (hg : w.heap[g]? = some (.cells cur.toArray e (0, 0))) (hc : cur = (madeCells z (cap * k)).toList) (hm : cap ≤ 9223372036854775807) : RowF f k w g 0 cap e [] := by
  refine ⟨cur, hg, by simp [cl_nil], rfl, Nat.zero_le _, hm, ?_⟩
  rw [hc, Array.length_toList, size_madeCells]

/-- A list of marked operations that the call has made, from block base on. -/
def ML (w : World) (base : Nat) (v : Value) (xs : List (Int × OpE)) : Prop := ∃ g, SF mkd 6 w 129 (some g) v xs ∧ base ≤ g
theorem ML.form {w : World} {base : Nat} {v : Value} {xs : List (Int × OpE)} (h : ML w base v xs) : ∃ g c, v = .slice (some ⟨g, 0, none⟩) xs.length c ∧ RowF mkd 6 w g xs.length c 129 xs ∧ base ≤ g ∧ c ≤ 9223372036854775807 ∧ xs.length ≤ c := by
  obtain ⟨g, ⟨c, rfl, hR⟩, hb⟩ := h
  have hR' := hR
  obtain ⟨cur, -, -, -, h1, h2, -⟩ := hR'
  exact ⟨g, c, rfl, hR, hb, h2, h1⟩
theorem ML.fr {S : Nat → Prop} {w w' : World} {base : Nat} {v : Value} {xs : List (Int × OpE)} (h : ML w base v xs) (hF : Fr S w w') (hS : ∀ k, base ≤ k → k < w.heap.size → ¬ S k) : ML w' base v xs := by
  obtain ⟨g, h, hb⟩ := h
  exact ⟨g, h.fr hF (fun k hk => by injection hk with hk; subst hk; exact hS g hb (h.lt _ rfl)), hb⟩
theorem ML.below {w w' : World} {base : Nat} {v : Value} {xs : List (Int × OpE)} (h : ML w base v xs) (hb : Below w.heap.size w w') : ML w' base v xs :=
  h.fr (S := fun _ => False) (Fr.of_below hb) (fun _ _ _ h => h.elim)
theorem ML.mono {w : World} {b b' : Nat} {v : Value} {xs : List (Int × OpE)} (h : ML w b v xs) (hb : b' ≤ b) : ML w b' v xs := by
  obtain ⟨g, h, h2⟩ := h
  exact ⟨g, h, by omega⟩
theorem ML.lt {w : World} {base : Nat} {v : Value} {xs : List (Int × OpE)} (h : ML w base v xs) : base < w.heap.size := by
  obtain ⟨g, h, h2⟩ := h
  have := h.lt _ rfl
  omega

theorem ML.grow {w0 u : World} {base : Nat} {v : Value} {xs : List (Int × OpE)} {m : Int} {k p c q s : Int} (h : ML u base v xs) (hb : Below base w0 u) (hlt : base ≤ w0.heap.size) (hn : xs.length ≤ 100000) :
    ∃ v' w', (∀ ty, (Builtin.append_ #[126, 126] ty #[v, .slice (some ⟨u.heap.size, 0, none⟩) 1 1]).run Tryz.prog (u.drew.alloc (.cells #[.int .i64 m, .int .i64 k, .int .i64 p, .int .u8 c, .int .i64 q, .int .i64 s] 129)) = .ok v' w') ∧ ML w' base v' (xs ++ [(m, ⟨k, p, c, q, s⟩)]) ∧ Below base w0 w' := by
  obtain ⟨g, hS, hg⟩ := h
  have hs := hb.size
  have hFu : Fr (fun _ => False) u (u.drew.alloc (.cells #[.int .i64 m, .int .i64 k, .int .i64 p, .int .u8 c, .int .i64 q, .int .i64 s] 129)) := (Fr.drew _ _).trans (Fr.alloc _ _ _)
  obtain ⟨v', w', hr, hN⟩ := push_mk (u.drew.alloc (.cells #[.int .i64 m, .int .i64 k, .int .i64 p, .int .u8 c, .int .i64 q, .int .i64 s] 129)) (some g) v xs (SF.fr hS hFu (fun _ _ h => h)) u.heap.size (m, ⟨k, p, c, q, s⟩) (heap_alloc_new u.drew _) hn
  obtain ⟨g', h1, h2, h3⟩ := hN.out
  have B2 : Below base w0 (u.drew.alloc (.cells #[.int .i64 m, .int .i64 k, .int .i64 p, .int .u8 c, .int .i64 q, .int .i64 s] 129)) := (hb.drew).alloc (by show base ≤ u.heap.size; omega) _
  have hsz : (u.drew.alloc (.cells #[.int .i64 m, .int .i64 k, .int .i64 p, .int .u8 c, .int .i64 q, .int .i64 s] 129)).heap.size = u.heap.size + 1 := by simp
  refine ⟨v', w', hr, ⟨g', h1, ?_⟩, B2.trans (h3.below (by omega) (fun k hk => by injection hk with hk; omega))⟩
  rcases h2 with h2 | h2
  · injection h2 with h2; omega
  · omega

set_option maxRecDepth 100000 in
set_option maxHeartbeats 4000000 in
theorem list_any (x : Nat) (p : Sp) (S : Nat → Prop) (w : World) (h : SpAt w x p S) :
    Calls Tryz.prog 76 #[.pointer (some ⟨x, 0, none⟩)] w fun e w' => ∃ u, e = .returned u ∧ ML w' w.heap.size u p.q ∧ Below w.heap.size w w' := by
  obtain ⟨i0, hi0, hz0, hz1, hz2⟩ := info_parts Tryz.infoM
  obtain ⟨⟨vm, vo, βm, βo, hK, hSx, hSm, hSo, hS⟩, hok⟩ := h
  have hn4 : p.q.length ≤ 4096 := by have := hok.n; have := hok.m; omega
  obtain ⟨am, cm, hvm, hcm1, hcm2⟩ := hK.rm.form
  obtain ⟨ao, co, hvo, hco1, hco2⟩ := hK.ro.form
  rw [Sp.ms_len] at hvm hcm1
  rw [Sp.os_len] at hvo hco1
  obtain ⟨n, hn⟩ : ∃ n, p.q.length = n := ⟨_, rfl⟩
  have HN := hd hn
  rw [hn] at hvm hvo hcm1 hco1 hn4
  subst hvm hvo
  have HK := hd hK
  have c0 := cell_row hK.box 0
  have c1 := cell_row hK.box 1
  simp at c0 c1
  have hxl := block_lt hK.box
  have hrow : ∀ j (hj : j < n), ∃ gm go, am = some ⟨gm, 0, none⟩ ∧ ao = some ⟨go, 0, none⟩ ∧ ∀ (hq : j < p.q.length) W, Below w.heap.size w W → gm < W.heap.size ∧ W.cell? ⟨gm, j, none⟩ = some (.int .i64 p.q[j].1) ∧ W.cell? ⟨go, j * 5, none⟩ = some (.int .i64 p.q[j].2.kind) ∧ W.cell? ⟨go, j * 5 + 1, none⟩ = some (.int .i64 p.q[j].2.pos) ∧ W.cell? ⟨go, j * 5 + 2, none⟩ = some (.int .u8 p.q[j].2.ch) ∧ W.cell? ⟨go, j * 5 + 3, none⟩ = some (.int .i64 p.q[j].2.cl) ∧ W.cell? ⟨go, j * 5 + 4, none⟩ = some (.int .i64 p.q[j].2.sq) := by
    intro j hj
    have hnn := HN.out
    have h1 := hK.rm
    have h2 := hK.ro
    cases βm with
    | none =>
      obtain ⟨-, h3⟩ := h1
      have : p.q.length = 0 := by rw [← Sp.ms_len, h3]; rfl
      omega
    | some gm =>
      cases βo with
      | none =>
        obtain ⟨-, h3⟩ := h2
        have : p.q.length = 0 := by rw [← Sp.os_len, h3]; rfl
        omega
      | some go =>
        obtain ⟨c1, h3, hRm⟩ := h1
        obtain ⟨c2, h4, hRo⟩ := h2
        injection h3 with h3
        injection h4 with h4
        refine ⟨gm, go, h3, h4, fun hq W hW => ?_⟩
        have hRm' := hRm.fr (S := fun _ => False) (Fr.of_below hW) (fun h => h)
        have hRo' := hRo.fr (S := fun _ => False) (Fr.of_below hW) (fun h => h)
        have jm : j < p.ms.length := by rw [Sp.ms_len]; exact hq
        have jo : j < p.os.length := by rw [Sp.os_len]; exact hq
        have k0 := hRm'.cell sz_ei j 0 jm (by omega)
        have l0 := hRo'.cell sz_opc j 0 jo (by omega)
        have l1 := hRo'.cell sz_opc j 1 jo (by omega)
        have l2 := hRo'.cell sz_opc j 2 jo (by omega)
        have l3 := hRo'.cell sz_opc j 3 jo (by omega)
        have l4 := hRo'.cell sz_opc j 4 jo (by omega)
        simp [ei, opc, Sp.ms, Sp.os] at k0 l0 l1 l2 l3 l4
        exact ⟨hRm'.lt, k0, l0, l1, l2, l3, l4⟩
  have HR := hd hrow
  clear hK hSx hSm hSo hS hok hn hrow
  go_enter Tryz.func76, Tryz.ntmps76
  go_wp2_with (first | (at_make; refine wpList_make_k _ rfl _ _ 126 rfl 129 i0 _ Tryz.underlying126 hi0 hz0 _ _ _ _ 0 n rfl rfl (by go_num) (by go_num) (by omega) (by rw [hz2]; omega) (by omega) ?_; intro w3 cur hg3 hcur hb3; have k1 : w3.cell? ⟨x, 1, none⟩ = some (.slice ao n co) := (hb3.out.cell (p := ⟨x, 1, none⟩) hxl).trans c1; have HRo := hd (row_empty (f := mkd) hg3.out (by have := hcur.out; rw [hz1] at this; exact this) (by omega)); have HB := hd hb3.out; clear hg3 hcur hb3) | fail)
  have S0 : Hid (ML w3 w.heap.size (.slice (some ⟨w.heap.size, 0, none⟩) 0 n) (p.q.take 0) ∧ Below w.heap.size w w3) :=
    ⟨⟨w.heap.size, ⟨n, by simp, by simpa using HRo.out⟩, Nat.le_refl _⟩, HB.out⟩
  clear HRo HB k1
  go_loopw [3, 17] (fun u i wr => ∃ j : Nat, j ≤ n ∧ i = .int .i64 j ∧ Hid (ML wr w.heap.size u (p.q.take j) ∧ Below w.heap.size w wr)) (fun _ i _ => n - (intOf i).toNat)
  case atStart => exact ⟨0, Nat.zero_le _, rfl, S0⟩
  case round =>
    obtain ⟨j, hj, rfl, hr⟩ := hrel
    clear S0
    by_cases hlt : j < n
    · obtain ⟨gm, go, rfl, rfl, hcs⟩ := HR.out j hlt
      have jq : j < p.q.length := by have := HN.out; omega
      obtain ⟨hgl, m0, l0, l1, l2, l3, l4⟩ := hcs jq wr hr.out.2
      have hxr : x < wr.heap.size := Nat.lt_of_lt_of_le hxl hr.out.2.size
      have x0 : wr.cell? ⟨x, 0, none⟩ = some (.slice (some ⟨gm, 0, none⟩) n cm) := (hr.out.2.cell (p := ⟨x, 0, none⟩) hxl).trans c0
      have ext : p.q.take (j + 1) = p.q.take j ++ [p.q[j]] := List.take_succ_eq_append_getElem jq
      have hl : (p.q.take j).length = j := by simp; omega
      have EX := hd ext
      generalize p.q[j] = pj at *
      obtain ⟨mj, k, ps, c, q, s⟩ := pj
      simp only at m0 l0 l1 l2 l3 l4
      obtain ⟨W, hW⟩ : ∃ W, W = wr.alloc (.cells #[.int .i64 k, .int .i64 ps, .int .u8 c, .int .i64 q, .int .i64 s] 46) := ⟨_, rfl⟩
      have HW := hd hW
      have B5 : W.heap[wr.heap.size]? = some (.cells #[.int .i64 k, .int .i64 ps, .int .u8 c, .int .i64 q, .int .i64 s] 46 (0, 0)) := by
        rw [hW]
        exact heap_alloc_new wr _
      have bW : Below wr.heap.size wr W := by
        rw [hW]
        exact (Below.refl _ _).alloc (Nat.le_refl _) _
      obtain ⟨⟨y0, y1, y2, y3, y4⟩, -⟩ := cells5 B5
      have xW0 := (bW.cell (p := ⟨x, 0, none⟩) hxr).trans x0
      have mW0 := (bW.cell (p := ⟨gm, j, none⟩) hgl).trans m0
      have hsW := bW.size
      have hgW := block_lt B5
      have hxW : x < W.heap.size := by omega
      have hmW : gm < W.heap.size := by omega
      obtain ⟨v', w', hap, h1, h2⟩ := ML.grow (m := mj) (k := k) (p := ps) (c := c) (q := q) (s := s) (hr.out.1.below bW) (hr.out.2.trans (bW.mono hr.out.2.size)) (Nat.le_refl _) (by rw [hl]; omega)
      rw [← ext] at h1
      have Z := hd (And.intro h1 h2)
      have HAP := hd hap
      have HC := hd (And.intro y0 (And.intro y1 (And.intro y2 (And.intro y3 (And.intro y4 (And.intro xW0 (And.intro mW0 (And.intro hgW (And.intro hxW hmW)))))))))
      have i2 : (j : Int) < (n : Int) := by omega
      clear h1 h2 hap ext hl hr hcs hW B5 bW y0 y1 y2 y3 y4 xW0 mW0 hsW hgW hxW hmW EX jq HR c0 c1 x0 m0
      go_wp2_with fail
      rw [← HW.out]
      obtain ⟨y0, y1, y2, y3, y4, xW0, mW0, hgW, hxW, hmW⟩ := HC.out
      have hap := HAP.out
      go_region_law (refine step_append_k rfl (.tmp 22) (.tmp 32) 126 126 rfl _ _ (by simp [Act.eval]) (by simp [Act.eval]) (hap _) ?_)
      all_goals go_wp2
      all_goals exact ⟨⟨j + 1, by omega, by go_num, Z⟩, by simp [intOf]; omega⟩
    · obtain rfl : j = n := by omega
      rw [List.take_of_length_le (by rw [HN.out]; exact Nat.le_refl _)] at hr
      go_wp2
      go_ret
      exact ⟨_, rfl, hr.out⟩

theorem queue_any (x : Nat) (p : Sp) (S : Nat → Prop) (w : World) (h : SpAt w x p S) :
    Calls Tryz.prog 62 #[.pointer (some ⟨x, 0, none⟩)] w fun e w' => ∃ u, e = .returned u ∧ ML w' w.heap.size u p.q ∧ Below w.heap.size w w' := by
  have HK := hd h
  clear h
  go_enter Tryz.func62, Tryz.ntmps62
  go_wp2_with fail
  refine (list_any x p S w HK.out).mono ?_
  rintro e w' ⟨u, rfl, h1, h2⟩
  have R := hd (And.intro h1 h2)
  clear h1 h2
  go_wp2
  go_ret
  exact ⟨_, rfl, R.out⟩

end Go.Proofs.YtilidolbplglcaaGreatDoor

/-! Mo -/
namespace Go.Proofs.YtilidolbplglcaaGreatDoor
open Go.RowKit
set_option linter.unusedVariables false

/-- The blocks of K are as they were. -/
def KP (K : Nat → Prop) (w w' : World) : Prop := ∀ k, K k → w'.heap[k]? = w.heap[k]?
theorem KP.refl (K : Nat → Prop) (w : World) : KP K w w := fun _ _ => rfl
theorem KP.trans {K : Nat → Prop} {a b c : World} (h : KP K a b) (h2 : KP K b c) : KP K a c := fun k hk => (h2 k hk).trans (h k hk)
def NoK : Nat → Prop := fun _ => False

/-- What an object is, in a world, with its blocks: it stays where they stay. -/
structure Frm (F : World → (Nat → Prop) → Prop) : Prop where
  fr : ∀ w w' S T, F w S → Fr T w w' → (∀ k, S k → ¬ T k) → F w' S
  old : ∀ w S, F w S → ∀ k, S k → k < w.heap.size

abbrev Thg := World → (Nat → Prop) → Prop
def noObj : Thg := fun _ S => ∀ k, ¬ S k
theorem frm_no : Frm noObj := ⟨fun _ _ _ _ h _ _ => h, fun _ _ h k hk => (h k hk).elim⟩
/-- The objects F, that share nothing; the blocks of K are none of theirs. -/
structure MO (w0 w : World) (K : Nat → Prop) (F : Nat → Thg) : Prop where
  tags : ∃ T : Nat → Nat, (∀ i, ∃ S, F i w S ∧ ∀ k, S k → T k = i + 1 ∧ w0.heap.size ≤ k) ∧ ∀ k, K k → T k = 0
  base : Below w0.heap.size w0 w
  old : ∀ k, K k → k < w.heap.size
  frm : ∀ i, Frm (F i)

def setO (F : Nat → Thg) (i : Nat) (G : Thg) : Nat → Thg := fun j => if j = i then G else F j
theorem setO_same (F : Nat → Thg) (i : Nat) (G : Thg) : setO F i G i = G := by simp [setO]
theorem setO_other (F : Nat → Thg) {i j : Nat} (G : Thg) (h : j ≠ i) : setO F i G j = F j := by simp [setO, h]

def tagN (n i : Nat) (T : Nat → Nat) : Nat → Nat := fun k => if n ≤ k then i else T k
theorem tag_new {n i k : Nat} {T : Nat → Nat} (h : n ≤ k) : tagN n i T k = i := by simp [tagN, h]
theorem tag_old {n i k : Nat} {T : Nat → Nat} (h : k < n) : tagN n i T k = T k := by simp [tagN]; omega

theorem MO.nil (w : World) : MO w w NoK (fun _ => noObj) := ⟨⟨fun _ => 0, fun i => ⟨fun _ => False, fun k h => h, fun k h => h.elim⟩, fun k hk => hk.elim⟩, Below.refl _ _, fun k hk => hk.elim, fun _ => frm_no⟩

section
variable {w0 w w' : World} {K : Nat → Prop} {F : Nat → Thg}

theorem MO.adds {K' : Nat → Prop} (h : MO w0 w K F) (hb : Below w.heap.size w w') (h1 : ∀ k, K' k → K k ∨ w.heap.size ≤ k) (h2 : ∀ k, K' k → k < w'.heap.size) : MO w0 w' K' F := by
  obtain ⟨T, hx, hk⟩ := h.tags
  refine ⟨⟨tagN w.heap.size 0 T, fun i => ?_, fun k hk' => ?_⟩, h.base.trans (hb.mono h.base.size), h2, h.frm⟩
  · obtain ⟨S, h3, h4⟩ := hx i
    refine ⟨S, (h.frm i).fr _ _ S (fun _ => False) h3 (Fr.of_below hb) (fun _ _ h => h), fun k hk => ?_⟩
    rw [tag_old ((h.frm i).old _ _ h3 k hk)]
    exact h4 k hk
  · by_cases hn : w.heap.size ≤ k
    · rw [tag_new hn]
    · rw [tag_old (by omega)]
      rcases h1 k hk' with h5 | h5
      · exact hk k h5
      · exact absurd h5 hn
theorem MO.below (h : MO w0 w K F) (hb : Below w.heap.size w w') : MO w0 w' K F := h.adds hb (fun k hk => .inl hk) (fun k hk => Nat.lt_of_lt_of_le (h.old k hk) hb.size)
theorem MO.kp (h : MO w0 w K F) (hb : Below w.heap.size w w') : KP K w w' := fun k hk => hb.block k (h.old k hk)
theorem MO.less {K' : Nat → Prop} (h : MO w0 w K F) (h1 : ∀ k, K' k → K k) : MO w0 w K' F := h.adds (Below.refl _ _) (fun k hk => .inl (h1 k hk)) (fun k hk => h.old k (h1 k hk))

theorem MO.now (h : MO w0 w K F) (i : Nat) : ∃ S, F i w S ∧ ∀ (G : Thg) w' S', Frm G → G w' S' → (∀ k, S' k → S k ∨ w.heap.size ≤ k) → Fr S w w' → MO w0 w' K (setO F i G) ∧ KP K w w' := by
  obtain ⟨T, hx, hk⟩ := h.tags
  obtain ⟨S, h1, h2⟩ := hx i
  refine ⟨S, h1, fun G w' S' hG h3 h4 h5 => ?_⟩
  have hs := h.base.size
  refine ⟨⟨⟨tagN w.heap.size (i + 1) T, fun j => ?_, fun k hk' => ?_⟩, h.base.trans (h5.below hs (fun k hk => (h2 k hk).2)), fun k hk => Nat.lt_of_lt_of_le (h.old k hk) h5.size, fun j => ?_⟩, fun k hk' => h5.block k (h.old k hk') (fun hS => by have := (h2 k hS).1; have := hk k hk'; omega)⟩
  · by_cases hji : j = i
    · subst hji
      rw [setO_same]
      refine ⟨S', h3, fun k hk => ?_⟩
      rcases h4 k hk with h6 | h6
      · rw [tag_old ((h.frm j).old _ _ h1 k h6)]
        exact h2 k h6
      · rw [tag_new h6]
        exact ⟨rfl, by omega⟩
    · obtain ⟨Sj, h6, h7⟩ := hx j
      rw [setO_other F G hji]
      refine ⟨Sj, (h.frm j).fr _ _ _ _ h6 h5 (fun k hk hs => by have := (h2 k hs).1; have := (h7 k hk).1; omega), fun k hk => ?_⟩
      rw [tag_old ((h.frm j).old _ _ h6 k hk)]
      exact h7 k hk
  · rw [tag_old (h.old k hk')]
    exact hk k hk'
  · by_cases hji : j = i
    · subst hji
      rw [setO_same]
      exact hG
    · rw [setO_other F G hji]
      exact h.frm j

/-- A new object at the place i. -/
theorem MO.put (h : MO w0 w K F) (i : Nat) {G : Thg} {S' : Nat → Prop} (hG : Frm G) (hg : G w' S') (hS : ∀ k, S' k → w.heap.size ≤ k) (hb : Below w.heap.size w w') : MO w0 w' K (setO F i G) := by
  obtain ⟨S, h1, h2⟩ := h.now i
  exact (h2 G w' S' hG hg (fun k hk => .inr (hS k hk)) (Fr.of_below hb)).1

/-- The object blocks stay the same: what the call has made besides may be kept. -/
theorem MO.same (h : MO w0 w K F) (i : Nat) : ∃ S, F i w S ∧ ∀ (G : Thg) w', Frm G → G w' S → Fr S w w' → MO w0 w' (fun k => K k ∨ (w.heap.size ≤ k ∧ k < w'.heap.size)) (setO F i G) ∧ KP K w w' := by
  obtain ⟨T, hx, hk⟩ := h.tags
  obtain ⟨S, h1, h2⟩ := hx i
  refine ⟨S, h1, fun G w' hG h3 h5 => ?_⟩
  have hs := h.base.size
  refine ⟨⟨⟨tagN w.heap.size 0 T, fun j => ?_, fun k hk' => ?_⟩, h.base.trans (h5.below hs (fun k hk => (h2 k hk).2)), ?_, fun j => ?_⟩, fun k hk' => h5.block k (h.old k hk') (fun hS => by have := (h2 k hS).1; have := hk k hk'; omega)⟩
  · by_cases hji : j = i
    · subst hji
      rw [setO_same]
      refine ⟨S, h3, fun k hk => ?_⟩
      rw [tag_old ((h.frm j).old _ _ h1 k hk)]
      exact h2 k hk
    · obtain ⟨Sj, h6, h7⟩ := hx j
      rw [setO_other F G hji]
      refine ⟨Sj, (h.frm j).fr _ _ _ _ h6 h5 (fun k hk hs => by have := (h2 k hs).1; have := (h7 k hk).1; omega), fun k hk => ?_⟩
      rw [tag_old ((h.frm j).old _ _ h6 k hk)]
      exact h7 k hk
  · rcases hk' with hk' | hk'
    · rw [tag_old (h.old k hk')]
      exact hk k hk'
    · rw [tag_new hk'.1]
  · rintro k (hk | hk)
    · exact Nat.lt_of_lt_of_le (h.old k hk) h5.size
    · exact hk.2
  · by_cases hji : j = i
    · subst hji
      rw [setO_same]
      exact hG
    · rw [setO_other F G hji]
      exact h.frm j

/-- A write into a block of K. -/
theorem MO.write {T : Nat → Prop} (h : MO w0 w K F) (hF : Fr T w w') (hT : ∀ k, T k → K k ∧ w0.heap.size ≤ k) : MO w0 w' K F := by
  obtain ⟨U, hx, hk⟩ := h.tags
  refine ⟨⟨U, fun j => ?_, hk⟩, h.base.trans (hF.below h.base.size (fun k hk => (hT k hk).2)), fun k hk => Nat.lt_of_lt_of_le (h.old k hk) hF.size, h.frm⟩
  obtain ⟨S, h3, h4⟩ := hx j
  exact ⟨S, (h.frm j).fr _ _ _ _ h3 hF (fun k hk' ht => by have := (h4 k hk').1; have := hk k (hT k ht).1; omega), h4⟩


end

def spO (x : Nat) (p : Sp) : Thg := fun w S => SpAt w x p S
theorem frm_sp (x : Nat) (p : Sp) : Frm (spO x p) := ⟨fun _ _ _ _ h hF hS => h.fr hF hS, fun _ _ h => h.1.old⟩

section
variable {w0 w w' : World} {K : Nat → Prop} {F : Nat → Thg} {x : Nat} {p : Sp}
theorem mo_ok (h : MO w0 w K F) (i : Nat) (hi : F i = spO x p) : p.ok := by
  obtain ⟨S, h1, -⟩ := h.now i
  rw [hi] at h1
  exact h1.2
theorem mo_new (h : MO w0 w K F) (i : Nat) (f : Bool) : Calls Tryz.prog 63 #[.bool f] w fun e w' => ∃ x, e = .returned (.pointer (some ⟨x, 0, none⟩)) ∧ MO w0 w' K (setO F i (spO x ⟨f, [], 0⟩)) ∧ Below w.heap.size w w' := by
  refine (new_any f w).mono ?_
  rintro e w' ⟨x, rfl, S, h1, h2, h3⟩
  exact ⟨x, rfl, h.put i (frm_sp _ _) h1 h2 h3, h3⟩
theorem mo_keep (h : MO w0 w K F) (i : Nat) (hi : F i = spO x p) (m : Int) (o : OpE) (ho : OkOp o) : Calls Tryz.prog 50 #[.pointer (some ⟨x, 0, none⟩), .int .i64 m, o.val] w fun e w' => e = .returned (.int .i64 (keepE p m o)) ∧ MO w0 w' K (setO F i (spO x (keepS p m o))) ∧ KP K w w' := by
  obtain ⟨S, h1, h2⟩ := h.now i
  rw [hi] at h1
  refine (keep_any x p m o S w h1 ho).mono ?_
  rintro e w' ⟨rfl, S', h3, h4, h5⟩
  exact ⟨rfl, h2 _ w' S' (frm_sp _ _) h3 h4 h5⟩
theorem mo_drop (h : MO w0 w K F) (i : Nat) (hi : F i = spO x p) (m : Int) : Calls Tryz.prog 48 #[.pointer (some ⟨x, 0, none⟩), .int .i64 m] w fun e w' => e = .returned (.int .i64 (dropN p m)) ∧ MO w0 w' K (setO F i (spO x (dropS p m))) ∧ KP K w w' := by
  obtain ⟨S, h1, h2⟩ := h.now i
  rw [hi] at h1
  refine (dropTo_any x p m S w h1).mono ?_
  rintro e w' ⟨rfl, h3, h5⟩
  exact ⟨rfl, h2 _ w' S (frm_sp _ _) h3 (fun k hk => .inl hk) h5⟩
theorem mo_queue (h : MO w0 w K F) (i : Nat) (hi : F i = spO x p) : Calls Tryz.prog 62 #[.pointer (some ⟨x, 0, none⟩)] w fun e w' => ∃ u, e = .returned u ∧ ML w' w.heap.size u p.q ∧ MO w0 w' (fun k => K k ∨ (w.heap.size ≤ k ∧ k < w'.heap.size)) F ∧ KP K w w' ∧ Below w.heap.size w w' := by
  obtain ⟨S, h1, -⟩ := h.now i
  rw [hi] at h1
  refine (queue_any x p S w h1).mono ?_
  rintro e w' ⟨u, rfl, h3, hb⟩
  refine ⟨u, rfl, h3, h.adds hb (fun k hk => hk.imp id (fun h => h.1)) ?_, h.kp hb, hb⟩
  rintro k (hk | hk)
  · exact Nat.lt_of_lt_of_le (h.old k hk) hb.size
  · exact hk.2
end

theorem ML.kp {w w' : World} {b : Nat} {v : Value} {xs : List (Int × OpE)} (h : ML w b v xs) (hk : ∀ k, b ≤ k → k < w.heap.size → w'.heap[k]? = w.heap[k]?) : ML w' b v xs := by
  obtain ⟨g, ⟨cap, hv, cur, hh, r⟩, hg⟩ := h
  exact ⟨g, ⟨cap, hv, cur, (hk g hg (block_lt hh)).trans hh, r⟩, hg⟩

end Go.Proofs.YtilidolbplglcaaGreatDoor
