/-
  Sweep, walked.
-/
import Derived.Test.YtkkklfnooeofcabAl
namespace Go.Proofs.Ytkkklfnooeofcab
open Go.RowKit Go.Maps Go.ChangeMaps Go.MapKept Go.WideMaps
set_option linter.unusedVariables false

/-- A note that a sweep leaves. -/
def keepN (xs : List El) (n : Nt) : Bool := !(n.sh && (((reachP xs n.el).1 : Int) == ((reachP xs n.el).2 : Int)))

/-- The board while it is swept: cur is left. -/
structure SwS (w u : World) (O : Nat → Prop) (r b g mb it : Nat) (ps cur : List NB) (xs : List El) (D : DataW Value) (left : Lit → Bool) (cnt : Nat) : Prop where
  rg : u.ranges Try.prog 3 RV b it ps.length D left cnt
  md : MD D cur
  sz : Maps.size D = cur.length
  cu : cur = ps.filter (fun p => keepN xs p.n || left (idL p.n.id))
  bk : BK u O r b g cur
  sm : SM u mb xs
  low : Fr O w u
  its : w.heap.size ≤ it ∧ w.heap.size ≤ mb

/-- The note p has come up. -/
structure SwM (w u : World) (O : Nat → Prop) (r b g mb it : Nat) (ps cur : List NB) (xs : List El) (D : DataW Value) (left : Lit → Bool) (cnt : Nat) (p : NB) : Prop where
  rg : u.ranges Try.prog 3 RV b it ps.length D (fun z => left z && !z.sameKey (idL p.n.id)) cnt
  md : MD D cur
  sz : Maps.size D = cur.length
  cu : cur = ps.filter (fun p => keepN xs p.n || left (idL p.n.id))
  bk : BK u O r b g cur
  sm : SM u mb xs
  low : Fr O w u
  its : w.heap.size ≤ it ∧ w.heap.size ≤ mb
  mem : p ∈ cur

section
variable {w u : World} {O : Nat → Prop} {r b g mb it : Nat} {ps cur : List NB} {xs : List El} {D : DataW Value} {left : Lit → Bool} {cnt : Nat} {p : NB}
theorem SwS.more (h : SwS w u O r b g mb it ps cur xs D left cnt) (hO : ∀ k, O k → k < w.heap.size) (hmb : mb ≠ it) {key v0 : Value} {kl : Lit} {w1 : World} {cnt1 : Nat} (hk : keyOf Try.prog 3 key = some kl) (hat : ∀ zd, D.atKey kl zd = .held v0) (hr : w1.ranges Try.prog 3 RV b it ps.length D (fun z => left z && !z.sameKey kl) cnt1) (hg : u.grownBy w1 (some it)) :
    ∃ p, key = .int .i64 (p.n.id : Int) ∧ v0 = .pointer (some ⟨p.x, 0, none⟩) ∧ SwM w w1 O r b g mb it ps cur xs D left cnt1 p := by
  obtain ⟨p, hp, rfl, rfl, rfl⟩ := h.md.hit hk hat
  have hF : Fr (· = it) u w1 := fr_grown hg
  exact ⟨p, rfl, rfl, hr, h.md, h.sz, h.cu, h.bk.fr hF (fun k hk e => by have := hO k hk; have := h.its; omega), h.sm.fr hF hmb, h.low.next hF (fun i hi e => by have := h.its; omega), h.its, hp⟩
theorem SwM.below {u' : World} (h : SwM w u O r b g mb it ps cur xs D left cnt p) (hb : Below u.heap.size u u') : SwM w u' O r b g mb it ps cur xs D left cnt p := by
  have hF : Fr (fun _ => False) u u' := Fr.of_below hb
  exact ⟨ranges_fr h.rg hF (fun h => h) (fun h => h), h.md, h.sz, h.cu, h.bk.below hb, h.sm.below hb, h.low.trans (Fr.of_below hb), h.its, h.mem⟩
theorem left_at (left : Lit → Bool) {q p : NB} (hp : p.n.id ≤ 9223372036854775807) : (q.n.id = p.n.id → (left (idL q.n.id) && !(idL q.n.id).sameKey (idL p.n.id)) = false) ∧ (q.n.id ≠ p.n.id → (left (idL q.n.id) && !(idL q.n.id).sameKey (idL p.n.id)) = left (idL q.n.id)) := by
  have e := same_idL (a := q.n.id) hp
  refine ⟨fun h => by rw [e.2 h]; simp, fun h => ?_⟩
  have : (idL q.n.id).sameKey (idL p.n.id) = false := by
    cases hs : (idL q.n.id).sameKey (idL p.n.id) with
    | false => rfl
    | true => exact absurd (e.1 hs) h
  rw [this]
  simp
theorem SwM.pm (h : SwM w u O r b g mb it ps cur xs D left cnt p) : p ∈ ps := by
  have := h.mem
  rw [h.cu] at this
  exact (List.mem_filter.1 this).1
theorem SwM.keep (h : SwM w u O r b g mb it ps cur xs D left cnt p) (hid : ps.Pairwise (fun p q => p.n.id < q.n.id)) (hk : keepN xs p.n = true) : SwS w u O r b g mb it ps cur xs D (fun z => left z && !z.sameKey (idL p.n.id)) cnt := by
  refine ⟨h.rg, h.md, h.sz, ?_, h.bk, h.sm, h.low, h.its⟩
  refine h.cu.trans (List.filter_congr fun q hq => ?_)
  obtain ⟨e1, e2⟩ := left_at left (q := q) (h.md.1 p h.mem)
  by_cases e : q.n.id = p.n.id
  · rw [ids_eq hid hq h.pm e, hk]
    simp
  · rw [e2 e]
theorem SwM.drop {u' : World} {cnt' : Nat} (h : SwM w u O r b g mb it ps cur xs D left cnt p) (hid : ps.Pairwise (fun p q => p.n.id < q.n.id)) (hO : ∀ k, O k → k < w.heap.size) (hk : keepN xs p.n = false) (hr : u'.ranges Try.prog 3 RV b it ps.length (D.del (idL p.n.id)) (fun z => (left z && !z.sameKey (idL p.n.id)) && !z.sameKey (idL p.n.id)) cnt') (ht : u.mapTurned u' b) :
    ∃ cur' D' left', SwS w u' O r b g mb it ps cur' xs D' left' cnt' ∧ cur'.length + 1 = cur.length := by
  have hF : Fr (· = b) u u' := fr_grown ht.grown
  have hpm := h.pm
  obtain ⟨⟨rg, md, sz, cu, bk, sm, low, its⟩, mem⟩ : SwM w u O r b g mb it ps cur xs D left cnt p ∧ p ∈ cur := ⟨h, h.mem⟩
  obtain ⟨L1, L2, rfl⟩ := List.append_of_mem mem
  have hids := List.pairwise_append.1 bk.ids
  have hids2 := List.pairwise_cons.1 hids.2.1
  have hn : ∀ q ∈ L1 ++ L2, q.n.id ≠ p.n.id := by
    intro q hq
    rcases List.mem_append.1 hq with hq | hq
    · have := hids.2.2 q hq p (by simp); omega
    · have := hids2.1 q hq; omega
  have hsub : (L1 ++ L2).Sublist (L1 ++ p :: L2) := List.Sublist.append_left (List.sublist_cons_self _ _) _
  have hmem : ∀ q ∈ L1 ++ L2, q ∈ L1 ++ p :: L2 := fun q hq => hsub.subset hq
  have hown := rg.owns
  have hmd : MD (D.del (idL p.n.id)) (L1 ++ L2) := by
    refine ⟨fun q hq => md.1 q (hmem q hq), fun q hq z => ?_, fun k hk' => ?_⟩
    · exact (atKey_del_other (lit_ne (hn q hq)) z).trans (md.2.1 q (hmem q hq) z)
    · by_cases hqk : k = p.n.id
      · subst hqk
        exact has_del_same
      · refine (has_del_other (lit_ni hqk)).trans (md.2.2 k (fun q hq => ?_))
        simp at hq
        rcases hq with hq | rfl | hq
        · exact hk' q (by simp [hq])
        · exact fun e => hqk e.symm
        · exact hk' q (by simp [hq])
  have hsz : Maps.size (D.del (idL p.n.id)) = (L1 ++ L2).length := by
    have := size_del (k := idL p.n.id) (hown.tidy law)
    rw [Maps.has_true_of_atKey (md.2.1 p mem), sz] at this
    simp at this ⊢
    omega
  have hmp : MP u' b ((L1 ++ L2).map keyN) := by
    refine ⟨D.del (idL p.n.id), ?_, by rw [hsz, List.length_map], ?_, ?_, ?_⟩
    · have := owns_size hr.owns
      rw [hsz] at this
      rw [List.length_map]
      exact this
    · intro q hq
      obtain ⟨q', hq', rfl⟩ := List.mem_map.1 hq
      exact hmd.1 q' hq'
    · intro q hq z
      obtain ⟨q', hq', rfl⟩ := List.mem_map.1 hq
      exact hmd.2.1 q' hq' z
    · intro k hk'
      exact hmd.2.2 k (fun q hq => hk' (keyN q) (List.mem_map.2 ⟨q, hq, rfl⟩))
  obtain ⟨es, clock, hmap⟩ := bk.mp.map
  have nb : ∀ {k : Nat} {cs : Array Value} {t : TypeId} {f : Nat × Nat}, u.heap[k]? = some (.cells cs t f) → ¬ k = b := fun hc => map_ne hc hmap ⟨es, clock, rfl⟩
  have hbk : BK u' O r b g (L1 ++ L2) := by
    refine ⟨hF.keeps bk.box (nb bk.box), hmp, fun q hq => ?_, bk.dis.sublist hsub, bk.orr, bk.ob, fun q hq => bk.on q (hmem q hq), fun k hk' => Nat.lt_of_lt_of_le (bk.old k hk') hF.size, bk.ids.sublist hsub, fun q hq => bk.bd q (hmem q hq), bk.le⟩
    have nk := bk.nk q (hmem q hq)
    refine nk.fr hF (nb nk.box) (fun k hk' => ?_) ?_
    · have hs := nk.said
      rw [hk'] at hs
      obtain ⟨c, hc⟩ := hs.blk
      exact nb hc
    · obtain ⟨c, hc⟩ := (se_sf nk.elems).blk
      exact nb hc
  refine ⟨L1 ++ L2, _, _, ⟨hr, hmd, hsz, ?_, hbk, sm.fr hF (by have := hO b bk.ob; omega), low.next hF (fun i _ e => by rw [e]; exact bk.ob), its⟩, by simp; omega⟩
  have e1 : (L1 ++ p :: L2).filter (fun q => q.n.id != p.n.id) = L1 ++ L2 := by
    rw [List.filter_append, List.filter_cons_of_neg (by simp), List.filter_eq_self.2 (fun q hq => by have := hn q (by simp [hq]); simpa using this), List.filter_eq_self.2 (fun q hq => by have := hn q (by simp [hq]); simpa using this)]
  rw [cu, List.filter_filter] at e1
  rw [← e1]
  refine List.filter_congr fun q hq => ?_
  obtain ⟨e2, e3⟩ := left_at left (q := q) (md.1 p mem)
  obtain ⟨e4, e5⟩ := left_at (fun z => left z && !z.sameKey (idL p.n.id)) (q := q) (md.1 p mem)
  by_cases e : q.n.id = p.n.id
  · rw [e4 e, ids_eq hid hq hpm e, hk]
    simp
  · rw [e5 e, e3 e]
    simp [e]
end

set_option maxRecDepth 100000 in
set_option maxHeartbeats 4000000 in
theorem sweep_any (O : Nat → Prop) (r g : Nat) (Ns : List Nt) (w : World) (h : BD w O r g Ns) (a : Option Addr) (N c : Nat) (xs : List El) (hE : IsE w a N c xs) (hwf : ∀ x ∈ xs, wfE x) :
    Calls Try.prog 38 #[.pointer (some ⟨r, 0, none⟩), .slice a N c] w fun e w' => e = .returned (.int .i64 ((Ns.length - (Ns.filter (keepN xs)).length : Nat) : Int)) ∧ NowB w w' O r g (Ns.filter (keepN xs)) := by
  obtain ⟨b, ps, rfl, hK⟩ := h
  have HO := hd hK.old
  have HLE := hd (Nat.le_trans hK.len hK.le)
  have HID := hd hK.ids
  have HK := hd hK
  have hps : List.filter (keepN xs) (ps.map NB.n) = (ps.filter (fun p => keepN xs p.n)).map NB.n := by rw [List.filter_map]; rfl
  rw [hps, List.length_map, List.length_map]
  clear hK hps
  go_enter Try.func38, Try.ntmps38
  go_wp2_with fail
  refine (spots_any a N c xs w hE hwf).mono ?_
  rintro e w1 ⟨mb, rfl, hM, hmb, b1⟩
  have HK1 := hd (HK.out.below b1)
  have HM1 := hd hM
  have HB1 := hd b1
  have LMB := hd hM.lt
  have HMB := hd hmb
  obtain ⟨D, hown, hDs, hD⟩ := HK1.out.mp.md
  have HD := hd hD
  have HDS := hd hDs
  have r0 := cell_row HK1.out.box 0
  simp at r0
  clear hM b1 hD hDs HK
  go_wp2_with (at_range; refine wpList_range_own _ rfl _ _ rfl 3 73 law Try.underlying51 RV b ps.length D rfl hown ?_; intro w2 hrg hg2 hs2)
  have b2 := below_grown hg2
  have I0 : Hid (SwS w w2 O r b g mb w1.heap.size ps ps xs D (Maps.has D) (Maps.size D)) := by
    refine ⟨hrg, HD.out, HDS.out, ?_, HK1.out.below b2, HM1.out.below b2, (Fr.of_below HB1.out : Fr O w w1).trans (Fr.of_below b2), HB1.out.size, HMB.out⟩
    symm
    rw [List.filter_eq_self]
    intro p hp
    rw [show Maps.has D (idL p.n.id) = true from Maps.has_true_of_atKey (HD.out.2.1 p hp)]
    simp
  clear hrg hg2 hs2 hown b2 r0 HK1 HM1
  generalize hit : w1.heap.size = it at *
  have HIT := hd (show mb ≠ it by have := LMB.out; omega)
  clear hit HB1 LMB hmb HMB HD HDS
  go_frame
  go_loopw [5] (fun v wr => ∃ D left cnt cur, v = .int .i64 ((ps.length - cur.length : Nat) : Int) ∧ Hid (SwS w wr O r b g mb it ps cur xs D left cnt)) (fun _ wr => wr.rangeLeft b it)
  case atStart => exact ⟨_, _, _, ps, by simp, I0⟩
  case round =>
    obtain ⟨D', left, cnt, cur, rfl, HR⟩ := hrel
    clear I0
    go_wp2_with (at_next; refine wpList_next_held _ rfl _ rfl b it ps.length D' left cnt rfl HR.out.rg ?_ ?_)
    · intro h0 hl0
      have e1 : cur = ps.filter (fun p => keepN xs p.n) := HR.out.cu.trans (List.filter_congr fun q hq => by rw [hl0]; simp)
      have Z : Hid (NowB w wr O r g ((ps.filter (fun p => keepN xs p.n)).map NB.n)) := ⟨O, ⟨b, _, rfl, e1 ▸ HR.out.bk⟩, fun k hk => .inl hk, HR.out.low⟩
      subst e1
      clear h0 hl0 HR
      go_wp2
      go_ret
      exact ⟨rfl, Z.out⟩
    · intro key fv kl w3 cnt1 hk hl hat hr hlt hg hsz hen
      obtain ⟨p, rfl, rfl, hM3⟩ := HR.out.more HO.out HIT.out hk hat hr hg
      have HCT := hd (show cnt1 < cnt ∧ wr.rangeLeft b it = cnt from ⟨hlt, HR.out.rg.left_eq⟩)
      have H3 := hd hM3
      have c6 := cell_row (hM3.bk.nk p hM3.mem).box 6
      simp [ntc] at c6
      clear hk hl hat hr hlt hg hsz hM3 HR
      cases hsh : p.n.sh with
      | false =>
        rw [hsh] at c6
        have Z := hd (H3.out.keep HID.out (by simp [keepN, hsh]))
        have ZL := Z.out.rg.left_eq
        have ZM : Hid (w3.rangeLeft b it < wr.rangeLeft b it) := by rw [Hid, ZL, HCT.out.2]; exact HCT.out.1
        clear H3 HCT ZL
        go_wp2
        exact ⟨⟨_, _, _, cur, rfl, Z⟩, ZM.out⟩
      | true =>
        rw [hsh] at c6
        have CR := hd (reach_any p mb xs w3 (H3.out.bk.nk p H3.out.mem) H3.out.sm)
        go_wp2_with fail
        refine CR.out.mono ?_
        rintro e w4 ⟨rfl, b4⟩
        have H4 := hd (H3.out.below b4)
        clear CR H3 b4 c6 hen
        go_wp2_with fail
        refine (empty_any _ _ _).mono ?_
        rintro e w5 ⟨rfl, b5⟩
        have H5 := hd (H4.out.below b5)
        clear H4 b5
        cases hk : keepN xs p.n with
        | true =>
          have he : (((reachP xs p.n.el).1 : Int) == ((reachP xs p.n.el).2 : Int)) = false := by simpa [keepN, hsh] using hk
          rw [he]
          have Z := hd (H5.out.keep HID.out hk)
          have ZL := Z.out.rg.left_eq
          have ZM : Hid (w5.rangeLeft b it < wr.rangeLeft b it) := by rw [Hid, ZL, HCT.out.2]; exact HCT.out.1
          clear H5 HCT ZL he hk
          go_wp2
          exact ⟨⟨_, _, _, cur, rfl, Z⟩, ZM.out⟩
        | false =>
          have he : (((reachP xs p.n.el).1 : Int) == ((reachP xs p.n.el).2 : Int)) = true := by simpa [keepN, hsh] using hk
          rw [he]
          have r0 := cell_row H5.out.bk.box 0
          simp at r0
          have HKY := hd (show keyOf Try.prog 3 (.int .i64 (p.n.id : Int)) = some (idL p.n.id) from key_nat p.n.id (H5.out.md.1 p H5.out.mem))
          have HKF := hd hk
          clear he hk
          go_wp2_with (at_delete; refine wpList_delete_ranges _ rfl _ _ 51 3 rfl 73 law Try.underlying51 RV b it ps.length D' _ cnt1 rfl H5.out.rg _ _ rfl HKY.out ?_; intro w6 cnt2 hrg2 hle hturn)
          obtain ⟨cur', D6, left6, hS6, hlen⟩ := H5.out.drop HID.out HO.out HKF.out hrg2 hturn
          have Z := hd hS6
          have ZL := hS6.rg.left_eq
          have ZM : Hid (w6.rangeLeft b it < wr.rangeLeft b it) := by rw [Hid, ZL, HCT.out.2]; exact Nat.lt_of_le_of_lt hle HCT.out.1
          have hcl : cur.length ≤ ps.length := by rw [H5.out.cu]; exact List.length_filter_le _ _
          have hw : wrap64 (((ps.length - cur.length : Nat) : Int) + 1) = ((ps.length - cur'.length : Nat) : Int) := by
            have := HLE.out
            unfold wrap64
            omega
          clear H5 HCT ZL hS6 hrg2 hle hturn hlen hcl
          go_wp2
          exact ⟨⟨_, _, _, cur', congrArg (Value.int .i64) hw, Z⟩, ZM.out⟩

end Go.Proofs.Ytkkklfnooeofcab
