/-
  What marked leaves of a Kept.
-/
import Derived.Test.YtocpfioifamkmaaOb
namespace Go.Proofs.Ytocpfioifamkmaa
open Go.RowKit
set_option linter.unusedVariables false

theorem hi_after {w w' : World} {g n c : Nat} {v' : Value} {ys zs : List (Int × Int)} (hR : RowF it 2 w g n c 38 ys) (hN : NowF it 2 w w' 38 (some g) v' (ys ++ zs)) : ∃ cur : List Value, w'.heap[g]? = some (.cells cur.toArray 38 (0, 0)) ∧ cur.take (n * 2) = cl it ys := by
  obtain ⟨g', ⟨cap, -, cur, hh, ht, -⟩, h2 | h2⟩ := hN
  · obtain ⟨h2, -⟩ := h2
    injection h2 with h2
    subst h2
    refine ⟨cur, hh, ?_⟩
    obtain ⟨-, -, -, hl, -⟩ := hR
    have h3 := congrArg (List.take (n * 2)) ht
    have h4 : (cl it ys).length = n * 2 := by rw [cl_len sz_it, hl]
    rw [List.take_take, Nat.min_eq_left (by simp [hl]; omega), cl_app, ← h4, List.take_left, h4] at h3
    exact h3
  · obtain ⟨cur2, hh2, ht2, -⟩ := hR
    exact ⟨cur2, h2.2.keeps hh2 (fun h => h), ht2⟩

theorem SF.keepB {α : Type} {f : α → List Value} {k : Nat} {w w' : World} {e : TypeId} {g : Nat} {v : Value} {xs : List α} (h : SF f k w e (some g) v xs) (hk : w'.heap[g]? = w.heap[g]?) : SF f k w' e (some g) v xs := by
  obtain ⟨cap, hv, cur, hh, r⟩ := h
  exact ⟨cap, hv, cur, hk.trans hh, r⟩

theorem kept_more {w wr w6 w7 w8 w9 U10 w10 U11 w11 : World} {o6 o7 : Obj} {kb m g n c gv g9 : Nat} {S : Nat → Prop} {vL : Value} {βL : Option Nat} {SL : List SV} {vW : Value} {βW : Option Nat} {SW : List SV} {E : List (List (Int × Int))} {βw : Option Nat} {aw a2 a4 : Option Addr} {cw c2 c4 : Nat} {v7 v11 : Value} {mark : Int} {z : Int × Int}
    (K0 : KB w kb m S vL βL SL vW βW SW E) (hg : ¬ S g) (hgl : g < w.heap.size) (F1 : Fr (· = g) w wr) (hRg : RowF it 2 wr g n c 38 (mk mark n)) (hW : SF it 2 wr 38 βw (.slice aw n cw) (mk mark n)) (hβw : ∀ b, βw = some b → w.heap.size ≤ b)
    (N6 : NowF it 2 (wr.alloc o6) w6 38 (some g) (.slice a2 (n + 1) c2) (mk mark n ++ [z])) (N7 : NowF sv 1 (w6.alloc o7) w7 35 βL v7 (SL ++ [⟨some ⟨g, 0, none⟩, n, c⟩, ⟨a2, n + 1, c2⟩]))
    (B8 : Below (w7.setCell ⟨kb, 0, none⟩ v7).heap.size (w7.setCell ⟨kb, 0, none⟩ v7) w8) (F9 : Fr (· = gv) w8 w9) (hgv : w7.heap.size ≤ gv) (hg9 : w7.heap.size ≤ g9)
    (F10 : Fr (fun _ => False) w9 U10) (N10 : NowF it 2 U10 w10 38 (some g9) (.slice a4 (n + 1) c4) (mk mark n ++ [z])) (F11 : Fr (fun _ => False) w10 U11) (N11 : NowF sv 1 U11 w11 35 βW v11 (SW ++ [⟨aw, n, cw⟩, ⟨a4, n + 1, c4⟩])) :
    ∃ S', keptO kb (m + 2) (w11.setCell ⟨kb, 1, none⟩ v11) S' ∧ (∀ k, S' k → S k ∨ k = g ∨ w.heap.size ≤ k) ∧ Fr (fun k => S k ∨ k = g) w (w11.setCell ⟨kb, 1, none⟩ v11) := by
  obtain ⟨g6, s6, d6, f6⟩ := N6.out
  obtain ⟨g7, s7, d7, f7⟩ := N7.out
  obtain ⟨g10, s10, d10, f10⟩ := N10.out
  obtain ⟨g11, s11, d11, f11⟩ := N11.out
  have z1 := F1.size
  have z6 : wr.heap.size + 1 ≤ w6.heap.size := by have := f6.size; simpa using this
  have z7 : w6.heap.size + 1 ≤ w7.heap.size := by have := f7.size; simpa using this
  have z8 : w7.heap.size ≤ w8.heap.size := by have := B8.size; simpa using this
  have z9 := F9.size
  have z10 := F10.size
  have z10' := f10.size
  have z11 := F11.size
  have z11' := f11.size
  have hkb : kb < w.heap.size := block_lt K0.box
  have hgk : g ≠ kb := fun h => hg (h ▸ K0.inK)
  have A1 : Fr (· = g) w w6 := F1.trans (((Fr.alloc (· = g) wr o6)).trans (f6.mono (fun k _ hk => by injection hk with hk; exact hk.symm)))
  have A2 : Fr (fun k => k = kb ∨ βL = some k) w6 (w7.setCell ⟨kb, 0, none⟩ v7) := ((Fr.alloc _ w6 o7).trans (f7.mono (fun k _ hk => .inr hk))).trans (Fr.setCell _ _ _ (.inl rfl))
  have A3 : Fr (fun k => k = kb ∨ βL = some k ∨ βW = some k) w6 (w11.setCell ⟨kb, 1, none⟩ v11) := by
    have q1 : Fr (fun k => k = kb ∨ βL = some k ∨ βW = some k) w6 (w7.setCell ⟨kb, 0, none⟩ v7) := A2.mono (fun k _ hk => hk.imp id .inl)
    have q2 : Fr (fun k => k = kb ∨ βL = some k ∨ βW = some k) w6 w8 := q1.trans (Fr.of_below B8)
    have q3 : Fr (fun k => k = kb ∨ βL = some k ∨ βW = some k) w6 w9 := q2.next F9 (fun i hi he => by omega)
    have q4 : Fr (fun k => k = kb ∨ βL = some k ∨ βW = some k) w6 w10 := q3.next ((F10.mono (S' := fun j => some g9 = some j) (fun _ _ h => h.elim)).trans f10) (fun i hi he => by injection he with he; omega)
    have q5 : Fr (fun k => k = kb ∨ βL = some k ∨ βW = some k) w6 w11 := q4.next ((F11.mono (S' := fun j => βW = some j) (fun _ _ h => h.elim)).trans f11) (fun i hi he => .inr (.inr he))
    exact q5.trans (Fr.setCell _ _ _ (.inl rfl))
  obtain ⟨We, hWe⟩ : ∃ We, We = w11.setCell ⟨kb, 1, none⟩ v11 := ⟨_, rfl⟩
  have zE : We.heap.size = w11.heap.size := by rw [hWe]; simp
  have rl : ∀ k cur, βL = some k → w.heap[k]? = some (.cells cur 38 (0, 0)) → False := fun k cur hk hh => by
    have := K0.rowL
    rw [hk] at this
    obtain ⟨c2, h2⟩ := this.blk
    rw [hh] at h2
    simp at h2
  have rw' : ∀ k cur, βW = some k → w.heap[k]? = some (.cells cur 38 (0, 0)) → False := fun k cur hk hh => by
    have := K0.rowW
    rw [hk] at this
    obtain ⟨c2, h2⟩ := this.blk
    rw [hh] at h2
    simp at h2
  have hLlt : ∀ k, βL = some k → k < w.heap.size := fun k hk => K0.rowL.lt k hk
  have hWlt : ∀ k, βW = some k → k < w.heap.size := fun k hk => K0.rowW.lt k hk
  have hLg : βL ≠ some g := fun h => hg (K0.inL g h)
  have hWg : βW ≠ some g := fun h => hg (K0.inW g h)
  have keep6 : ∀ k, k < w6.heap.size → k ≠ kb → βL ≠ some k → βW ≠ some k → We.heap[k]? = w6.heap[k]? := fun k hk h1 h2 h3 => by
    rw [hWe]
    refine A3.block k hk (fun h => ?_)
    rcases h with h | h | h
    · exact h1 h
    · exact h2 h
    · exact h3 h
  let S' : Nat → Prop := fun k => (S k ∨ k = g ∨ w.heap.size ≤ k) ∧ k < We.heap.size
  have inS' : ∀ k, S k → S' k := fun k hk => ⟨.inl hk, by have := K0.old k hk; omega⟩
  have newS' : ∀ k, w.heap.size ≤ k → k < We.heap.size → S' k := fun k h1 h2 => ⟨.inr (.inr h1), h2⟩
  have gS' : S' g := ⟨.inr (.inl rfl), by omega⟩
  have oldHI : ∀ s e, HI w S s e → HI We S' s e := fun s e h => by
    refine (h.typed (w' := We) (fun b cur hb hh => ?_)).more inS'
    have hbl := block_lt hh
    have hbg : b ≠ g := fun h => hg (h ▸ hb)
    rw [keep6 b (by omega) (fun h => ?_) (fun h => rl b _ h hh) (fun h => rw' b _ h hh)]
    · exact A1.block b hbl hbg
    · subst h
      have := K0.box
      rw [hh] at this
      simp at this
  have farL : ∀ k, w.heap.size ≤ k → βL ≠ some k := fun k hk h => by have := hLlt k h; omega
  have farW : ∀ k, w.heap.size ≤ k → βW ≠ some k := fun k hk h => by have := hWlt k h; omega
  have h1 : HI We S' ⟨some ⟨g, 0, none⟩, n, c⟩ (mk mark n) := by
    obtain ⟨cur, e1, e2⟩ := hi_after (hRg.fr (S := fun _ => False) (Fr.alloc _ _ o6) (fun h => h)) N6
    obtain ⟨-, -, -, -, e3, e4, -⟩ := hRg
    exact ⟨mk_len _ _, e3, e4, fun _ => ⟨g, cur, rfl, gS', (keep6 g (by omega) hgk hLg hWg).trans e1, e2⟩⟩
  have h2 : HI We S' ⟨a2, n + 1, c2⟩ (mk mark n ++ [z]) := by
    have hlt6 := s6.lt g6 rfl
    have k6 : We.heap[g6]? = w6.heap[g6]? ∧ S' g6 := by
      rcases d6 with d6 | d6
      · injection d6 with d6
        subst d6
        exact ⟨keep6 g (by omega) hgk hLg hWg, gS'⟩
      · simp at d6
        exact ⟨keep6 g6 (by omega) (by omega) (farL _ (by omega)) (farW _ (by omega)), newS' _ (by omega) (by omega)⟩
    exact (SF.keepB s6 k6.1).hi (fun b hb => by injection hb with hb; subst hb; exact k6.2)
  have h3 : HI We S' ⟨aw, n, cw⟩ (mk mark n) := by
    cases βw with
    | none => exact SF.hi (w := We) (β := none) hW (fun b hb => by cases hb)
    | some bw =>
      have hb1 := hβw bw rfl
      have hb2 := hW.lt bw rfl
      have e1 : w6.heap[bw]? = wr.heap[bw]? := ((Fr.alloc (fun j => some g = some j) wr o6).trans f6).block bw hb2 (fun h => by injection h with h; omega)
      have e2 := keep6 bw (by omega) (by omega) (farL _ hb1) (farW _ hb1)
      exact (SF.keepB hW (e2.trans e1)).hi (fun b hb => by injection hb with hb; subst hb; exact newS' _ hb1 (by omega))
  have z10g : w7.heap.size ≤ g10 := by
    rcases d10 with d10 | d10
    · injection d10 with d10; omega
    · omega
  have h4 : HI We S' ⟨a4, n + 1, c4⟩ (mk mark n ++ [z]) := by
    have hlt := s10.lt g10 rfl
    have e1 : We.heap[g10]? = w10.heap[g10]? := by
      rw [hWe]
      exact (((F11.mono (S' := fun j => j = kb ∨ βW = some j) (fun _ _ h => h.elim)).trans (f11.mono (fun k _ hk => .inr hk))).trans (Fr.setCell _ _ _ (.inl rfl))).block g10 hlt (fun h => by
        rcases h with h | h
        · omega
        · exact farW g10 (by omega) h)
    exact (SF.keepB s10 e1).hi (fun b hb => by injection hb with hb; subst hb; exact newS' _ (by omega) (by omega))
  have bL : ∀ k, βL = some k → k ≠ kb := fun k hk h => by
    subst h
    have := K0.rowL
    rw [hk] at this
    obtain ⟨c2, h2⟩ := this.blk
    rw [K0.box] at h2
    simp at h2
  have bW : ∀ k, βW = some k → k ≠ kb := fun k hk h => by
    subst h
    have := K0.rowW
    rw [hk] at this
    obtain ⟨c2, h2⟩ := this.blk
    rw [K0.box] at h2
    simp at h2
  have t7 : Fr (fun k => k = gv ∨ k = g9 ∨ βW = some k) (w7.setCell ⟨kb, 0, none⟩ v7) w11 := by
    have q2 : Fr (fun k => k = gv ∨ k = g9 ∨ βW = some k) (w7.setCell ⟨kb, 0, none⟩ v7) w9 := (Fr.of_below B8).trans (F9.mono (fun k _ hk => .inl hk))
    have q4 := q2.trans ((F10.mono (S' := fun k => k = gv ∨ k = g9 ∨ βW = some k) (fun _ _ h => h.elim)).trans (f10.mono (fun k _ hk => by injection hk with hk; exact .inr (.inl hk.symm))))
    exact q4.trans ((F11.mono (fun _ _ h => h.elim)).trans (f11.mono (fun k _ hk => .inr (.inr hk))))
  have g7k : g7 ≠ kb ∧ g7 < w7.heap.size ∧ βW ≠ some g7 ∧ (S g7 ∨ w.heap.size ≤ g7) := by
    have hlt := s7.lt g7 rfl
    rcases d7 with d7 | d7
    · exact ⟨bL _ d7, hlt, K0.ne _ d7, .inl (K0.inL _ d7)⟩
    · simp at d7
      exact ⟨by omega, hlt, farW _ (by omega), .inr (by omega)⟩
  have g11k : g11 ≠ kb ∧ g11 < w11.heap.size ∧ (S g11 ∨ w.heap.size ≤ g11) := by
    have hlt := s11.lt g11 rfl
    rcases d11 with d11 | d11
    · exact ⟨bW _ d11, hlt, .inl (K0.inW _ d11)⟩
    · exact ⟨by omega, hlt, .inr (by omega)⟩
  have eL : We.heap[g7]? = w7.heap[g7]? := by
    have e1 : (w7.setCell ⟨kb, 0, none⟩ v7).heap[g7]? = w7.heap[g7]? := (Fr.setCell (S := (· = kb)) w7 ⟨kb, 0, none⟩ v7 rfl).block g7 g7k.2.1 g7k.1
    have e2 := t7.block g7 (by simpa using g7k.2.1) (fun h => by
      rcases h with h | h | h
      · omega
      · omega
      · exact g7k.2.2.1 h)
    have e3 : We.heap[g7]? = w11.heap[g7]? := by rw [hWe]; exact (Fr.setCell (S := (· = kb)) w11 ⟨kb, 1, none⟩ v11 rfl).block g7 (by omega) g7k.1
    exact e3.trans (e2.trans e1)
  have eW : We.heap[g11]? = w11.heap[g11]? := by rw [hWe]; exact (Fr.setCell (S := (· = kb)) w11 ⟨kb, 1, none⟩ v11 rfl).block g11 g11k.2.1 g11k.1
  have eK : We.heap[kb]? = some (.cells #[v7, v11] 45 (0, 0)) := by
    have e1 : w7.heap[kb]? = some (.cells #[vL, vW] 45 (0, 0)) := ((Fr.alloc (fun j => βL = some j) w6 o7).trans f7).keeps (A1.keeps K0.box (fun h => hgk h.symm)) (fun h => bL _ h rfl)
    have e2 := set_row e1 0 v7
    have e3 := t7.keeps e2 (fun h => by
      rcases h with h | h | h
      · omega
      · omega
      · exact bW _ h rfl)
    have e4 := set_row e3 1 v11
    rw [hWe]
    simpa using e4
  obtain ⟨k1, k2, k3⟩ := K0.ke
  refine ⟨S', ⟨v7, some g7, SL ++ [⟨some ⟨g, 0, none⟩, n, c⟩, ⟨a2, n + 1, c2⟩], v11, some g11, SW ++ [⟨aw, n, cw⟩, ⟨a4, n + 1, c4⟩], E ++ [mk mark n, mk mark n ++ [z]], ?_⟩, fun k hk => hk.1, ?_⟩
  · rw [← hWe]
    refine ⟨eK, SF.keepB s7 eL, SF.keepB s11 eW, ⟨by simp [k1], by simp [k2], ?_⟩, by simp [K0.len], ?_, inS' _ K0.inK, ?_, ?_, fun k hk => hk.2⟩
    · intro j sl sw e h5 h6 h7
      by_cases hj : j < E.length
      · rw [List.getElem?_append_left (by omega)] at h5 h6 h7
        obtain ⟨h8, h9⟩ := k3 j sl sw e h5 h6 h7
        exact ⟨oldHI _ _ h8, oldHI _ _ h9⟩
      · rw [List.getElem?_append_right (by omega)] at h5 h6 h7
        rw [k1] at h5
        rw [k2] at h6
        rcases hx : j - E.length with _ | _ | x
        · rw [hx] at h5 h6 h7
          simp at h5 h6 h7
          subst h5 h6 h7
          exact ⟨h1, h3⟩
        · rw [hx] at h5 h6 h7
          simp at h5 h6 h7
          subst h5 h6 h7
          exact ⟨h2, h4⟩
        · rw [hx] at h5
          simp at h5
    · intro q hq hq2
      injection hq with hq
      injection hq2 with hq2
      have hqq : g7 = g11 := hq.trans hq2.symm
      rcases d11 with d11 | d11
      · exact g7k.2.2.1 (by rw [hqq]; exact d11)
      · have := g7k.2.1; omega
    · intro q hq
      injection hq with hq
      subst hq
      rcases g7k.2.2.2 with h | h
      · exact inS' _ h
      · exact newS' _ h (by have := g7k.2.1; omega)
    · intro q hq
      injection hq with hq
      subst hq
      rcases g11k.2.2 with h | h
      · exact inS' _ h
      · exact newS' _ h (by have := g11k.2.1; omega)
  · exact (A1.mono (S' := fun k => S k ∨ k = g) (fun k _ hk => .inr hk)).next A3 (fun k _ hk => by
      rcases hk with hk | hk | hk
      · rw [hk]; exact .inl K0.inK
      · exact .inl (K0.inL _ hk)
      · exact .inl (K0.inW _ hk))

end Go.Proofs.Ytocpfioifamkmaa
