/-
  A sight: list, walked.
-/
import Derived.Test.YtfhghijefjhehaaDoorMM
namespace Go.Proofs.YtfhghijefjhehaaDoor
open Go.RowKit Go.Maps Go.ChangeMaps Go.MapKept Go.WideMaps
set_option linter.unusedVariables false

theorem wpList_append_k {P : Program} (w : World) {ops : Array Oper} {rest : List Oper} {o : Oper} {a : Act} {Q : Exit → Act → World → Prop} (hgd : o.guard = none) (d s : Operand) (t t' : TypeId)
    (ho : o.op = .call { callee := .builtin .append, args := #[d, s], argTypes := #[t, t'] }) (v u : Value) (hd' : a.eval d = v) (hs : a.eval s = u) {v' : Value} {w' : World}
    (hr : (Builtin.append_ #[t, t'] o.type #[v, u]).run P w = .ok v' w') (h : wpList P ops Q rest (a.put o.dst v') w') : wpList P ops Q (o :: rest) a w := by
  refine wpList_plain hgd fun K hK => ?_
  unfold Oper.wp
  simp [execOp, ho, resolve, invoke, builtin, hd', hs, hr, Result.andThen]
  exact hK _ _ h

theorem li_push {w u : World} {m n : Nat} {D : DataW Value} {left : Lit → Bool} {cnt : Nat} {β : Option Nat} {a : Option Addr} {c : Nat} {A : List El} (x : El) (h1 : u.ranges Tryd.prog 64 RV m w.heap.size n D left cnt) (h2 : SF elc 3 u 64 β (.slice a A.length c) A) (h3 : ∀ g, β = some g → w.heap.size < g) (h6 : Below w.heap.size w u) (hA : A.length ≤ 5864062014634) (hm : m < w.heap.size) :
    ∃ g' cap w2, (∀ ty, (Builtin.append_ #[35, 35] ty #[.slice a A.length c, .slice (some ⟨u.heap.size, 0, none⟩) 1 1]).run Tryd.prog (u.alloc (.cells #[.int .u8 x.1, .int .i64 x.2.1, .int .i64 x.2.2] 64)) = .ok (.slice (some ⟨g', 0, none⟩) (A.length + 1) cap) w2) ∧
      w2.ranges Tryd.prog 64 RV m w.heap.size n D left cnt ∧ SF elc 3 w2 64 (some g') (.slice (some ⟨g', 0, none⟩) (A.length + 1) cap) (A ++ [x]) ∧ w.heap.size < g' ∧ Below w.heap.size w w2 := by
  have hF : Fr (fun _ => False) u (u.alloc (.cells #[.int .u8 x.1, .int .i64 x.2.1, .int .i64 x.2.2] 64)) := Fr.alloc _ _ _
  have hbA : Below w.heap.size w (u.alloc (.cells #[.int .u8 x.1, .int .i64 x.2.1, .int .i64 x.2.2] 64)) := h6.alloc h6.size _
  have hlt := h1.lt
  have hS2 := h2.fr hF (fun _ _ h => h)
  obtain ⟨v', w', hr, g, ⟨cap, rfl, hR⟩, hN⟩ := push_el _ β _ A hS2 u.heap.size x (heap_alloc_new u (.cells #[.int .u8 x.1, .int .i64 x.2.1, .int .i64 x.2.2] 64)) hA
  have hl : (A ++ [x]).length = A.length + 1 := by simp
  rw [hl] at hr
  have hg : w.heap.size < g := by
    rcases hN with ⟨e, -⟩ | ⟨e, -⟩
    · exact h3 g e
    · simp at e
      omega
  have hFg : Fr (fun k => k = g) (u.alloc (.cells #[.int .u8 x.1, .int .i64 x.2.1, .int .i64 x.2.2] 64)) w' := by
    rcases hN with ⟨-, hf⟩ | ⟨-, hf⟩
    · exact hf
    · exact hf.mono (fun _ _ h => h.elim)
  refine ⟨g, cap, w', hr, ranges_fr (ranges_fr h1 hF (fun h => h) (fun h => h)) hFg (by omega) (by omega), ⟨cap, by rw [hl], hR⟩, hg, hbA.trans (hFg.below hbA.size (fun k hk => by omega))⟩

theorem own_size {w : World} {b n : Nat} {D : DataW Value} (h : w.ownsMap Tryd.prog 64 RV b n D) : Maps.size D ≤ n := by
  obtain ⟨es, clock, hb, F, hs, rfl⟩ := h
  simpa [Maps.size, length_sorted] using hs

theorem below_grown {w w' : World} (h : w.grownBy w' none) : Below w.heap.size w w' := ⟨h.os, h.tape, h.output, h.size, fun k hk => h.block k hk (by simp)⟩

theorem strict_of {L : List El} {V : List Dd} (h1 : L.Pairwise (fun a b => ¬ ltK b a)) (h2 : L.Nodup) (h3 : ∀ x ∈ L, thereP V x) (hK : ∀ x y, thereP V x → thereP V y → x ≠ y → keyNe x y) : L.Pairwise ltK := by
  have h4 : L.Pairwise (fun a b => ¬ ltK b a ∧ a ≠ b) := by
    rw [List.pairwise_and_iff]
    exact ⟨h1, h2⟩
  refine List.Pairwise.imp_of_mem ?_ h4
  intro a b ha hb ⟨hn, hne⟩
  have := hK a b (h3 a ha) (h3 b hb) hne
  unfold ltK keyNe at *
  omega

set_option maxRecDepth 100000 in
set_option maxHeartbeats 4000000 in
theorem list_any (w : World) (s m : Nat) (V : List Dd) (h : SG w s m V) (hn : V.length ≤ 5864062014634) (hK : ∀ x y, thereP V x → thereP V y → x ≠ y → keyNe x y) :
    Calls Tryd.prog 22 #[.pointer (some ⟨s, 0, none⟩)] w fun e w' => ∃ a c L, e = .returned (.slice a (List.length (α := El) L) c) ∧ IsTx w' a L ∧ L.Pairwise ltK ∧ (∀ x, x ∈ L ↔ thereP V x) ∧ Below w.heap.size w w' := by
  obtain ⟨⟨cn, hc⟩, D, hown, hd1, hd2, hd3⟩ := h
  have s0 := cell_row hc 0
  simp at s0
  have HD : Hid (MD D V) := ⟨hd1, hd2, hd3⟩
  have HM := hd hown.lt
  have HSZ := hd (own_size hown)
  have HN := hd hn
  have HK := hd hK
  clear hd1 hd2 hd3 hc hn hK
  go_enter Tryd.func22, Tryd.ntmps22
  go_upto_region 2 with fail
  go_wp2_with (at_range; refine wpList_range_own _ rfl _ _ rfl 64 95 lawEl Tryd.underlying91 RV m V.length D rfl hown ?_; intro w0 hrg0 hg0 hs0)
  have I0 : Hid (LiI w w0 m V D (Maps.has D) (Maps.size D) none (.slice none 0 0) [] ∧ List.length (α := El) [] + Maps.size D ≤ V.length) := by
    refine ⟨⟨hrg0, ⟨rfl, rfl⟩, fun g h => (by cases h), fun x => ⟨fun h => (by cases h), fun h => ?_⟩, List.nodup_nil, below_grown hg0⟩, by simpa using HSZ.out⟩
    obtain ⟨⟨⟨d, hdV, e⟩, -⟩, hf⟩ := h
    rw [← e, Maps.has_true_of_atKey (HD.out.2.1 d hdV)] at hf
    cases hf
  clear hrg0 hg0 hs0 hown s0
  go_frame
  go_loopw [3] (fun v wr => ∃ left cnt β A, Hid (LiI w wr m V D left cnt β v A ∧ List.length (α := El) A + cnt ≤ V.length)) (fun _ wr => wr.rangeLeft m w.heap.size)
  case atStart => exact ⟨_, _, _, _, I0⟩
  case round =>
    obtain ⟨left, cnt, β, A, HR⟩ := hrel
    clear I0
    obtain ⟨a3, c3, rfl, -, -⟩ := HR.out.1.2.1.form
    go_wp2_with (at_next; refine wpList_next_held _ rfl _ rfl m w.heap.size V.length D left cnt rfl HR.out.1.1 ?_ ?_)
    · intro h0 hl0
      have hB := HR.out.1.2.2.2.2.2
      have hA : ∀ x, x ∈ A ↔ thereP V x := fun x => by rw [HR.out.1.2.2.2.1 x, hl0]; simp
      have CS := hd (sort_any wr β (.slice a3 A.length c3) A HR.out.1.2.1 (by have := HR.out.2; have := HN.out; omega))
      have HA := hd hA
      have HBB := hd hB
      have HND := hd HR.out.1.2.2.2.2.1
      have HG3 := hd HR.out.1.2.2.1
      clear h0 hl0 hB hA HR
      go_wp2_with (go_at_call 37; refine CS.out.mono ?_; rintro e w2 ⟨rfl, L, a, c, hv, hp, hs, ht, hF⟩)
      obtain ⟨rfl, hl, rfl⟩ : a3 = a ∧ A.length = L.length ∧ c3 = c := by simpa using hv
      have Z : Hid (IsTx w2 a3 L ∧ L.Pairwise ltK ∧ (∀ x, x ∈ L ↔ thereP V x) ∧ Below w.heap.size w w2) := by
        have hm : ∀ x, x ∈ L ↔ thereP V x := fun x => by rw [hp.mem_iff]; exact HA.out x
        refine ⟨ht, strict_of hs (hp.nodup_iff.2 HND.out) (fun x hx => (hm x).1 hx) HK.out, hm, HBB.out.trans (hF.below HBB.out.size (fun k hk => by have := HG3.out k hk; omega))⟩
      clear hv hp hs ht hF
      clear hl
      go_wp2
      go_ret
      exact ⟨a3, c3, L, rfl, Z.out⟩
    · intro key fv kl w1 cnt1 hk hl hat hr hlt hg hsz hen
      obtain ⟨x, rfl, rfl, hxA, hxV, hr', hSF, hB', hleft⟩ := HR.out.1.next HD.out hk hl hat hr hg
      have HX : Hid (x ∉ A ∧ (∃ d ∈ V, dEl d = x) ∧ (∀ y, (∃ d ∈ V, dEl d = y) → ((left (kE y) && !(kE y).sameKey (kE x)) = false ↔ (left (kE y) = false ∨ y = x)))) := ⟨hxA, hxV, hleft⟩
      have HR1 := hd (show w1.ranges Tryd.prog 64 RV m w.heap.size V.length D (fun z => left z && !z.sameKey (kE x)) cnt1 ∧ SF elc 3 w1 64 β (.slice a3 A.length c3) A ∧ Below w.heap.size w w1 from ⟨hr', hSF, hB'⟩)
      have HO := hd (show (∀ g, β = some g → w.heap.size < g) ∧ (∀ y, y ∈ A ↔ thereP V y ∧ left (kE y) = false) ∧ A.Nodup ∧ A.length + cnt ≤ V.length from ⟨HR.out.1.2.2.1, HR.out.1.2.2.2.1, HR.out.1.2.2.2.2.1, HR.out.2⟩)
      have HLq : wr.rangeLeft m w.heap.size = cnt := HR.out.1.1.left_eq
      have HCT := hd (show cnt1 < cnt ∧ wr.rangeLeft m w.heap.size = cnt from ⟨hlt, HLq⟩)
      clear hk hl hat hr hlt hg hsz hxA hxV hr' hSF hB' hleft HR HLq
      simp only [elV, fV] at hen ⊢
      generalize hmB : madeB V x = mB at *
      generalize hgB : goneB V x = gB at *
      have HMB := hd hmB
      have HGB := hd hgB
      clear hmB hgB
      have bel : Below w1.heap.size w1 ((w1.alloc (.cells #[.int .u8 x.1, .int .i64 x.2.1, .int .i64 x.2.2] 64)).alloc (.cells #[.bool mB, .bool gB, .int .i64 0] 95)) := ((Below.refl _ _).alloc (Nat.le_refl _) _).alloc (by simp) _
      have bxe : ((w1.alloc (.cells #[.int .u8 x.1, .int .i64 x.2.1, .int .i64 x.2.2] 64)).alloc (.cells #[.bool mB, .bool gB, .int .i64 0] 95)).heap[w1.heap.size]? = some (.cells #[.int .u8 x.1, .int .i64 x.2.1, .int .i64 x.2.2] 64 (0, 0)) := (heap_alloc_old _ _ (by simp)).trans (heap_alloc_new _ _)
      have BEL := hd bel
      have BXE := hd bxe
      clear bel bxe
      go_upto_if 17 with (go_at_call 36; refine (there_any _ _ _ _).mono ?_; rintro e u ⟨rfl, bu⟩)
      have bu' := BEL.out.trans (bu.mono BEL.out.size)
      have hF : Fr (fun _ => False) w1 u := Fr.of_below bu'
      have HU := hd (show u.ranges Tryd.prog 64 RV m w.heap.size V.length D (fun z => left z && !z.sameKey (kE x)) cnt1 ∧ SF elc 3 u 64 β (.slice a3 A.length c3) A ∧ Below w.heap.size w u from ⟨ranges_fr HR1.out.1 hF (fun h => h) (fun h => h), HR1.out.2.1.fr hF (fun _ _ h => h), HR1.out.2.2.trans (bu'.mono HR1.out.2.2.size)⟩)
      have hxe := block_keep bu BXE.out (block_lt BXE.out)
      have x0 := cell_row hxe 0; have x1 := cell_row hxe 1; have x2 := cell_row hxe 2
      simp at x0 x1 x2
      clear BEL BXE bu bu' hF hxe HR1
      cases ht : (mB && !gB) with
      | false =>
        have Z : Hid (LiI w u m V D (fun z => left z && !z.sameKey (kE x)) cnt1 β (.slice a3 A.length c3) A ∧ A.length + cnt1 ≤ V.length) := by
          refine ⟨⟨HU.out.1, HU.out.2.1, HO.out.1, fun y => ?_, HO.out.2.2.1, HU.out.2.2⟩, by have := HO.out.2.2.2; have := HCT.out.1; omega⟩
          rw [HO.out.2.1 y]
          constructor
          · rintro ⟨h1, h2⟩
            exact ⟨h1, (HX.out.2.2 y h1.1).2 (.inl h2)⟩
          · rintro ⟨h1, h2⟩
            rcases (HX.out.2.2 y h1.1).1 h2 with h | rfl
            · exact ⟨h1, h⟩
            · rw [← HMB.out, ← HGB.out, h1.2.1, h1.2.2] at ht
              cases ht
        have ZL := HU.out.1.left_eq
        have ZM : Hid (u.rangeLeft m w.heap.size < wr.rangeLeft m w.heap.size) := by rw [Hid, ZL, HCT.out.2]; exact HCT.out.1
        clear HU ZL
        go_wp2
        exact ⟨⟨_, _, _, _, Z⟩, ZM.out⟩
      | true =>
        obtain ⟨g', cap, w2, hrun, p1, p2, p3, p4⟩ := li_push x HU.out.1 HU.out.2.1 HO.out.1 HU.out.2.2 (by have := HO.out.2.2.2; have := HN.out; omega) HM.out
        have Z : Hid (LiI w w2 m V D (fun z => left z && !z.sameKey (kE x)) cnt1 (some g') (.slice (some ⟨g', 0, none⟩) (A.length + 1) cap) (A ++ [x]) ∧ (A ++ [x]).length + cnt1 ≤ V.length) := by
          have hth : thereP V x := by
            refine ⟨HX.out.2.1, ?_, ?_⟩
            · rw [HMB.out]; cases mB <;> simp_all
            · rw [HGB.out]; cases gB <;> simp_all
          refine ⟨⟨p1, p2, fun g hg => by cases hg; exact p3, fun y => ?_, ?_, p4⟩, by have := HO.out.2.2.2; have := HCT.out.1; simp only [List.length_append, List.length_singleton]; omega⟩
          · rw [List.mem_append, HO.out.2.1 y]
            constructor
            · rintro (⟨h1, h2⟩ | h)
              · exact ⟨h1, (HX.out.2.2 y h1.1).2 (.inl h2)⟩
              · obtain rfl := List.mem_singleton.1 h
                exact ⟨hth, (HX.out.2.2 _ hth.1).2 (.inr rfl)⟩
            · rintro ⟨h1, h2⟩
              rcases (HX.out.2.2 y h1.1).1 h2 with h | rfl
              · exact .inl ⟨h1, h⟩
              · exact .inr (List.mem_singleton.2 rfl)
          · rw [List.nodup_append]
            refine ⟨HO.out.2.2.1, by simp, fun a ha b hb e => HX.out.1 ?_⟩
            obtain rfl := List.mem_singleton.1 hb
            rw [← e]
            exact ha
        have ZL := p1.left_eq
        have ZM : Hid (w2.rangeLeft m w.heap.size < wr.rangeLeft m w.heap.size) := by rw [Hid, ZL, HCT.out.2]; exact HCT.out.1
        clear HU ZL p1 p2 p3 p4
        go_wp2_with (at_builtin; refine wpList_append_k _ rfl _ _ 35 35 rfl _ _ rfl rfl (hrun _) ?_)
        exact ⟨⟨_, _, _, _, Z⟩, ZM.out⟩

end Go.Proofs.YtfhghijefjhehaaDoor
