/-
  All, walked once more: the lists of answers that it hands out lie apart.
-/
import Derived.Test.YtkkklfnooeofcabAm
namespace Go.Proofs.Ytkkklfnooeofcab
open Go.RowKit Go.Maps Go.ChangeMaps Go.MapKept Go.WideMaps
set_option linter.unusedVariables false

/-- Two told notes' lists of answers lie apart. -/
def Apt (t t' : TN) : Prop := ∀ p, t.a = some p → t'.a ≠ some p
theorem Apt.symm {t t' : TN} (h : Apt t t') : Apt t' t := fun p h1 h2 => h p h2 h1
/-- What All answers, told with the lists apart. -/
def AllD (w0 u : World) (v : Value) (Ns : List Nt) (xs : List El) : Prop :=
  ∃ L β, SF tnc 8 u 47 β v L ∧ (∀ k, β = some k → w0.heap.size ≤ k) ∧ L.map TN.n = Ns ∧ (∀ t ∈ L, TNok w0 u xs t) ∧ L.Pairwise Apt

theorem all_fin2 {w u u' : World} {O : Nat → Prop} {r b g mb it : Nat} {ps : List NB} {xs : List El} {D : DataW Value} {left : Lit → Bool} {cnt : Nat} {β : Option Nat} {v : Value} {A L : List TN} (h : AlS w u O r b g mb it ps xs D left cnt β v A) (hl : ∀ kl, left kl = false) (hp : L.Perm A) (hs : L.Pairwise (fun a b => a.n.id ≤ b.n.id)) (hS : SF tnc 8 u' 47 β v L) (hF : Fr (fun k => β = some k) u u') (hO : ∀ k, O k → k < w.heap.size) (hA : A.Pairwise Apt) :
    AllD w u' v (ps.map NB.n) xs ∧ Below w.heap.size w u' := by
  refine ⟨⟨L, β, hS, fun k hk => (h.new k hk).1, ?_, fun t ht => ?_, (hp.pairwise_iff (fun h => h.symm)).2 hA⟩, h.low.trans (hF.below h.low.size (fun k hk => (h.new k hk).1))⟩
  · have hnd : (L.map TN.n).Nodup := ((hp.map TN.n).nodup_iff).2 h.nd
    have hmem : ∀ n, n ∈ L.map TN.n ↔ n ∈ ps.map NB.n := by
      intro n
      rw [(hp.map TN.n).mem_iff]
      constructor
      · exact h.sub n
      · intro hn
        obtain ⟨p, hpp, rfl⟩ := List.mem_map.1 hn
        exact (h.seen p hpp).2 (hl _)
    refine rise_ext _ _ ?_ (List.pairwise_map.2 h.bk.ids) hmem
    have h1 : (L.map TN.n).Pairwise (fun a b => a.id ≤ b.id) := List.pairwise_map.2 hs
    have h2 : (L.map TN.n).Pairwise (fun a b => a.id ≤ b.id ∧ a ≠ b) := by
      rw [List.pairwise_and_iff]
      exact ⟨h1, hnd⟩
    refine List.Pairwise.imp_of_mem ?_ h2
    intro a c ha hc ⟨hle, hne⟩
    obtain ⟨p, hpp, rfl⟩ := List.mem_map.1 ((hmem a).1 ha)
    obtain ⟨q, hqq, rfl⟩ := List.mem_map.1 ((hmem c).1 hc)
    have : p.n.id ≠ q.n.id := fun e => hne (ids_eq h.bk.ids hpp hqq e)
    omega
  · refine (h.ok t (hp.mem_iff.1 ht)).fr hF (fun k cs e hc => ?_)
    have hrow := h.row
    rw [e] at hrow
    obtain ⟨cur, hcur⟩ := hrow.blk
    rw [hcur] at hc
    injection hc with hc
    injection hc with h1 h2
    exact absurd h2 (by decide)

set_option maxRecDepth 100000 in
set_option maxHeartbeats 4000000 in
theorem all_any2 (O : Nat → Prop) (r g : Nat) (Ns : List Nt) (w : World) (h : BD w O r g Ns) (a : Option Addr) (N c : Nat) (xs : List El) (hE : IsE w a N c xs) (hwf : ∀ x ∈ xs, wfE x) (hroom : ∀ n ∈ Ns, roomy n.sd.length 24) :
    Calls Try.prog 20 #[.pointer (some ⟨r, 0, none⟩), .slice a N c] w fun e w' => ∃ v, e = .returned v ∧ AllD w w' v Ns xs ∧ Below w.heap.size w w' := by
  obtain ⟨b, ps, rfl, hK⟩ := h
  have HO := hd hK.old
  have HLE := hd (Nat.le_trans hK.len hK.le)
  have HRM := hd (show ∀ p ∈ ps, roomy p.n.sd.length 24 from fun p hp => hroom p.n (List.mem_map.2 ⟨p, hp, rfl⟩))
  have HK := hd hK
  clear hK hroom
  go_enter Try.func20, Try.ntmps20
  go_wp2_with fail
  refine (spots_any a N c xs w hE hwf).mono ?_
  rintro e w1 ⟨mb, rfl, hM, hmb, b1⟩
  have HK1 := hd (HK.out.below b1)
  have HM1 := hd hM
  have HB1 := hd b1
  have LMB := hd hM.lt
  obtain ⟨D, hown, hDs, hD⟩ := HK1.out.mp.md
  have HD := hd hD
  have HDS := hd hDs
  have r0 := cell_row HK1.out.box 0
  simp at r0
  clear hM b1 hD hDs HK
  go_wp2_with (at_range; refine wpList_range_own _ rfl _ _ rfl 3 73 law Try.underlying51 RV b ps.length D rfl hown ?_; intro w2 hrg hg2 hs2)
  have b2 := below_grown hg2
  have I0 : Hid (AlS w w2 O r b g mb w1.heap.size ps xs D (Maps.has D) (Maps.size D) none (.slice none 0 0) []) := by
    refine ⟨hrg, ⟨rfl, rfl⟩, fun k hk => (by cases hk), fun t ht => (by cases ht), fun p hp => ⟨fun h => (by cases h), fun hf => ?_⟩, fun n hn => (by cases hn), List.nodup_nil, by rw [HDS.out]; simp, HK1.out.below b2, HM1.out.below b2, HB1.out.trans (b2.mono HB1.out.size), HB1.out.size⟩
    rw [Maps.has_true_of_atKey (HD.out.2.1 p hp)] at hf
    cases hf
  clear hrg hg2 hs2 hown b2 r0 HK1 HM1
  generalize hit : w1.heap.size = it at *
  have HIT := hd (show mb ≠ it by have := LMB.out; omega)
  clear hit HB1 LMB hmb
  go_frame
  go_loopw [5] (fun v wr => ∃ left cnt β A, Hid (AlS w wr O r b g mb it ps xs D left cnt β v A ∧ A.Pairwise Apt)) (fun _ wr => wr.rangeLeft b it)
  case atStart => exact ⟨_, _, _, _, hd ⟨I0.out, List.Pairwise.nil⟩⟩
  case round =>
    obtain ⟨left, cnt, β, A, HRA⟩ := hrel
    have HR := hd HRA.out.1
    have HA := hd HRA.out.2
    clear HRA
    clear I0
    obtain ⟨a3, c3, rfl, -, -⟩ := HR.out.row.form
    go_wp2_with (at_next; refine wpList_next_held _ rfl _ rfl b it ps.length D left cnt rfl HR.out.rg ?_ ?_)
    · intro h0 hl0
      have CS := hd (sortN_any wr β _ A HR.out.row (by have := HR.out.len; have := HLE.out; omega))
      have HL0 := hd hl0
      clear h0 hl0
      go_wp2_with fail
      refine CS.out.mono ?_
      rintro e w3 ⟨rfl, L, hp, hs, hS3, hF3⟩
      have Z := hd (all_fin2 HR.out HL0.out hp hs hS3 hF3 HO.out HA.out)
      clear hp hs hS3 hF3 CS HR
      go_wp2
      go_ret
      exact ⟨_, rfl, Z.out⟩
    · intro key fv kl w3 cnt1 hk hl hat hr hlt hg hsz hen
      obtain ⟨p, rfl, rfl, hM3⟩ := HR.out.more HD.out HO.out HIT.out hk hl hat hr hlt hg
      have HCT := hd (show cnt1 < cnt ∧ wr.rangeLeft b it = cnt from ⟨hlt, HR.out.rg.left_eq⟩)
      have H3 := hd hM3
      have CI := hd (in_any p mb xs w3 (hM3.bk.nk p hM3.mem) hM3.sm (HRM.out p hM3.mem))
      clear hk hl hat hr hlt hg hsz hM3 HR
      go_wp2_with fail
      refine CI.out.mono ?_
      rintro e w4 ⟨u4, γ, rfl, hS4, hγ4, b4⟩
      obtain ⟨au, cu, hu, -, -⟩ := hS4.form
      subst hu
      have H4 := hd (H3.out.below b4)
      obtain ⟨v', w', β', hrun, hAl⟩ := H4.out.push ⟨p.n, reachP xs p.n.el, au, p.n.sd.length, cu⟩ rfl ⟨rfl, γ, hS4, fun k hk => Nat.le_trans H3.out.low.size (hγ4 k hk)⟩ HLE.out HO.out
      have hAp : (A ++ [(⟨p.n, reachP xs p.n.el, au, p.n.sd.length, cu⟩ : TN)]).Pairwise Apt := by
        refine List.pairwise_append.2 ⟨HA.out, List.pairwise_singleton _ _, fun t ht t' ht' q h1 h2 => ?_⟩
        rw [List.mem_singleton.1 ht'] at h2
        simp only at h2
        obtain ⟨-, γ', hS', -⟩ := H3.out.ok t ht
        cases γ with
        | none =>
          obtain ⟨e1, -⟩ := hS4
          injection e1 with e1
          rw [e1] at h2
          cases h2
        | some k =>
          obtain ⟨cap, e1, -⟩ := hS4
          injection e1 with e1
          rw [e1] at h2
          have k1 := hγ4 k rfl
          cases γ' with
          | none =>
            obtain ⟨e2, -⟩ := hS'
            injection e2 with e2
            rw [e2] at h1
            cases h1
          | some k' =>
            have k2 := hS'.lt k' rfl
            obtain ⟨cap', e2, -⟩ := hS'
            injection e2 with e2
            rw [e2] at h1
            rw [← h2] at h1
            injection h1 with h1
            injection h1 with h1
            omega
      have Z := hd (And.intro hAl hAp)
      have ZL := hAl.rg.left_eq
      have ZM : Hid (w'.rangeLeft b it < wr.rangeLeft b it) := by rw [Hid, ZL, HCT.out.2]; exact HCT.out.1
      simp only [tnc] at hrun
      simp only [ntA]
      clear hAl hAp ZL H3 H4 hS4 hγ4 b4 CI HCT HA
      go_wp2_with (at_builtin; refine wpList_append_k _ rfl _ _ 65 65 rfl _ _ rfl rfl (hrun _) ?_)
      exact ⟨⟨_, _, _, _, Z⟩, ZM.out⟩

end Go.Proofs.Ytkkklfnooeofcab
