/-
  Texts put together: Jk Jl Jm.
-/
import Derived.Test.YtkkklfnooeofcabMJh
import Derived.Test.YtkkklfnooeofcabHc
import Derived.Test.YtkkklfnooeofcabSw
import Derived.Test.YtkkklfnooeofcabAl
/-! Jk -/
namespace Go.Proofs.Ytkkklfnooeofcab
open Go.RowKit Go.Lib
set_option linter.unusedVariables false

/-- The numbers gathered from the first k notes. -/
structure RAtI (w wr : World) (xs : List El) (pos : Int) (Ns : List Nt) (k : Nat) (β : Option Nat) (v : Value) : Prop where
  row : SF ic 1 wr 3 β v (((Ns.take k).filter (cov xs pos)).map (fun t => (t.id : Int)))
  new : ∀ j, β = some j → w.heap.size ≤ j
  low : Below w.heap.size w wr
theorem RAtI.below {w wr u : World} {xs : List El} {pos : Int} {Ns : List Nt} {k : Nat} {β : Option Nat} {v : Value} (h : RAtI w wr xs pos Ns k β v) (hb : Below wr.heap.size wr u) : RAtI w u xs pos Ns k β v :=
  ⟨h.row.fr (S := fun _ => False) (Fr.of_below hb) (fun _ _ h => h), h.new, h.low.trans (hb.mono h.low.size)⟩
theorem take_one {Ns : List Nt} {k : Nat} (hk : k < Ns.length) : Ns.take (k + 1) = Ns.take k ++ [Ns[k]] := List.take_succ_eq_append_getElem hk
theorem RAtI.skip {w wr : World} {xs : List El} {pos : Int} {Ns : List Nt} {k : Nat} {β : Option Nat} {v : Value} (h : RAtI w wr xs pos Ns k β v) (hk : k < Ns.length) (hc : cov xs pos Ns[k] = false) : RAtI w wr xs pos Ns (k + 1) β v := by
  refine ⟨?_, h.new, h.low⟩
  rw [take_one hk, List.filter_append]
  simp [hc]
  exact h.row
theorem RAtI.push {w u : World} {xs : List El} {pos : Int} {Ns : List Nt} {k : Nat} {β : Option Nat} {v : Value} (h : RAtI w u xs pos Ns k β v) (hk : k < Ns.length) (hN : Ns.length ≤ 256) (hc : cov xs pos Ns[k] = true) :
    ∃ v' w' β', (∀ ty, (Builtin.append_ #[59, 59] ty #[v, .slice (some ⟨u.heap.size, 0, none⟩) 1 1]).run Try.prog (u.alloc (.cells #[.int .i64 (Ns[k].id : Int)] 3)) = .ok v' w') ∧ RAtI w w' xs pos Ns (k + 1) β' v' := by
  obtain ⟨i0, hi0, hz0, hz1, hz2⟩ := info_parts Try.infoI
  have hb : Below u.heap.size u (u.alloc (.cells #[.int .i64 (Ns[k].id : Int)] 3)) := (Below.refl _ _).alloc (Nat.le_refl _) _
  have h' := h.below hb
  have hz := heap_alloc_new u (.cells #[.int .i64 (Ns[k].id : Int)] 3)
  have hl : (((Ns.take k).filter (cov xs pos)).map (fun t => (t.id : Int))).length ≤ 256 := by
    rw [List.length_map]
    have := List.length_filter_le (cov xs pos) (Ns.take k)
    rw [List.length_take] at this
    omega
  obtain ⟨v', w', hr, g', h1, h2⟩ := run_pushF sz_ic (P := Try.prog) (u.alloc (.cells #[.int .i64 (Ns[k].id : Int)] 3)) 59 0 3 i0 _ 8 Try.underlying59 hi0 hz0 hz1 rfl hz2 β v _ h'.row ⟨u.heap.size, 0, none⟩ 1 1 [(Ns[k].id : Int)] rfl (fun j x hj => by
    rw [add_lit, Nat.zero_add, cell_row hz]
    simp only [cl_one] at hj
    simpa [ic] using hj) (by omega) (by omega) (by omega)
  have hs := h'.low.size
  have hg' : w.heap.size ≤ g' := by
    rcases h2 with ⟨e, -⟩ | ⟨e, -⟩
    · exact h.new g' e
    · omega
  have hF : Fr (· = g') (u.alloc (.cells #[.int .i64 (Ns[k].id : Int)] 3)) w' := by
    rcases h2 with ⟨-, hf⟩ | ⟨-, hf⟩
    · exact hf
    · exact hf.mono (fun _ _ h => h.elim)
  refine ⟨v', w', some g', fun ty => hr, ?_, fun j hj => by cases hj; exact hg', h'.low.trans (hF.below hs (fun k hk => by omega))⟩
  rw [take_one hk, List.filter_append]
  simpa [hc] using h1
theorem cov_shut {xs : List El} {pos : Int} {n : Nt} (h : n.sh = true) : cov xs pos n = false := by simp [cov, h]

set_option maxRecDepth 100000 in
set_option maxHeartbeats 8000000 in
theorem rat_any (O : Nat → Prop) (r g : Nat) (Ns : List Nt) (w : World) (h : RBD w O r g Ns) (a : Option Addr) (nx cx : Nat) (xs : List El) (hE : IsE w a nx cx xs) (pos : Int) (hroom : ∀ n ∈ Ns, roomy n.sd.length 24) :
    Calls Try.prog 23 #[.pointer (some ⟨r, 0, none⟩), .slice a nx cx, .int .i64 pos] w fun e w' => ∃ v β, e = .returned v ∧ SF ic 1 w' 3 β v ((Ns.filter (cov xs pos)).map (fun t => (t.id : Int))) ∧ (∀ k, β = some k → w.heap.size ≤ k) ∧ Below w.heap.size w w' := by
  obtain ⟨β0, v0, ps, rfl, hK⟩ := h
  obtain ⟨a0, c, hv, c0, -, hc1, hc2, hr⟩ := hK.len
  have HLE := hd hK.lele
  have HA := hd (fun i hi => hK.at i hi)
  have HK := hd hK
  have HE := hd hE
  have HRM := hd (fun (i : Nat) (hi : i < ps.length) => hroom ps[i].n (List.mem_map.2 ⟨_, List.getElem_mem hi, rfl⟩))
  subst hv
  obtain ⟨n, hnn⟩ : ∃ n, ps.length = n := ⟨_, rfl⟩
  have HN := hd hnn
  have hle := HLE.out
  rw [hnn] at c0 hle hc1
  have C0 := hd c0
  have SI : Hid (RAtI w w xs pos (ps.map RN.n) 0 none (.slice none 0 0)) := ⟨⟨rfl, by simp⟩, fun j hj => (by cases hj), Below.refl _ _⟩
  clear hK hE hroom hnn c0
  go_enter Try.func23, Try.ntmps23
  go_wp2
  go_loopw [7, 8] (fun v i wr => ∃ (k : Nat) (β : Option Nat) (av : Option Addr) (nv cv : Nat), k ≤ n ∧ i = .int .i64 k ∧ v = .slice av nv cv ∧ Hid (RAtI w wr xs pos (ps.map RN.n) k β (.slice av nv cv))) (fun _ i _ => n - (intOf i).toNat)
  case atStart => exact ⟨0, none, none, 0, 0, Nat.zero_le _, rfl, rfl, SI⟩
  case round =>
    obtain ⟨k, β, av, nv, cv, hk, rfl, rfl, HS⟩ := hrel
    have c0 : wr.cell? ⟨r, 0, none⟩ = some (.slice a0 n c) := (HS.out.low.cell (p := ⟨r, 0, none⟩) hr).trans C0.out
    by_cases hlt : k < n
    · have kx : k < ps.length := by rw [HN.out]; exact hlt
      obtain ⟨b, c', hb, hv, hcell⟩ := HA.out k kx
      obtain ⟨rfl, -, -⟩ := Value.slice.inj hv
      have lb : b < w.heap.size := by
        have := HK.out.row
        rw [hb] at this
        obtain ⟨cur, hcur⟩ := this.blk
        exact block_lt hcur
      have d0 := (HS.out.low.cell (p := ⟨b, k * 6, none⟩) lb).trans (hcell 0 _ (by omega) rfl); have d1 := (HS.out.low.cell (p := ⟨b, k * 6 + 1, none⟩) lb).trans (hcell 1 _ (by omega) rfl); have d2 := (HS.out.low.cell (p := ⟨b, k * 6 + 2, none⟩) lb).trans (hcell 2 _ (by omega) rfl)
      have d3 := (HS.out.low.cell (p := ⟨b, k * 6 + 3, none⟩) lb).trans (hcell 3 _ (by omega) rfl); have d4 := (HS.out.low.cell (p := ⟨b, k * 6 + 4, none⟩) lb).trans (hcell 4 _ (by omega) rfl); have d5 := (HS.out.low.cell (p := ⟨b, k * 6 + 5, none⟩) lb).trans (hcell 5 _ (by omega) rfl)
      have j1 : (k : Int) < (n : Int) := by omega
      have CS := hd (rstands_any a nx cx xs ps[k] wr ((HK.out.rk _ (List.getElem_mem kx)).fr (S := fun _ => False) (Fr.of_below HS.out.low) (fun _ _ h => h) (fun _ _ h => h)) (HE.out.below HS.out.low) (HRM.out k kx))
      have kn : k < (ps.map RN.n).length := by simpa using kx
      have HP : Hid ((ps.map RN.n)[k] = ps[k].n) := by unfold Hid; simp
      generalize ps[k] = p at *
      unfold rna at CS
      clear hcell hv SI
      go_wp2_with (go_at_call 40; refine CS.out.mono ?_)
      rintro e w4 ⟨y, ρ, rfl, hS, hβ, b4⟩
      obtain ⟨a1, ca, rfl, -, -⟩ := hS.form
      have H4 := HS.out.below b4
      obtain ⟨⟨f, t⟩, hft⟩ : ∃ q, reachP xs p.n.el = q := ⟨_, rfl⟩
      have hA := heap_alloc_new w4 (.cells #[.int .i64 (p.n.id : Int), .int .i64 p.n.cl, .string p.n.wo, .int .i64 (f : Int), .int .i64 (t : Int), .bool ((f : Int) == (t : Int)), .bool p.n.sh, .slice a1 p.n.sd.length ca] 47)
      have bA : Below w4.heap.size w4 (w4.alloc (.cells #[.int .i64 (p.n.id : Int), .int .i64 p.n.cl, .string p.n.wo, .int .i64 (f : Int), .int .i64 (t : Int), .bool ((f : Int) == (t : Int)), .bool p.n.sh, .slice a1 p.n.sd.length ca] 47)) := (Below.refl _ _).alloc (Nat.le_refl _) _
      have H6 := hd (H4.below bA)
      rw [hft]
      have hcv : Hid (cov xs pos p.n = (!p.n.sh && (decide ((f : Int) ≤ pos) && decide (pos < (t : Int))))) := by unfold Hid cov; rw [hft]
      clear bA H4 hS hβ b4 HS CS d0 d1 d2 d3 d4 d5 c0 hft
      simp only [ntA]
      go_upto_region 6 with fail
      generalize w4.alloc (.cells #[.int .i64 (p.n.id : Int), .int .i64 p.n.cl, .string p.n.wo, .int .i64 (f : Int), .int .i64 (t : Int), .bool ((f : Int) == (t : Int)), .bool p.n.sh, .slice a1 p.n.sd.length ca] 47) = w6 at *
      have y0 := cell_row hA 0; have y3 := cell_row hA 3; have y4 := cell_row hA 4; have y5 := cell_row hA 5; have y6 := cell_row hA 6
      simp only [List.getElem?_toArray, List.getElem?_cons_zero, List.getElem?_cons_succ] at y0 y3 y4 y5 y6
      clear hA
      obtain ⟨w7, rfl⟩ : ∃ u, u = w6 := ⟨w6, rfl⟩
      go_cut [47] (fun b wx => b = .bool (cov xs pos p.n) ∧ wx = w7)
      case first =>
        cases hsh : p.n.sh with
        | true =>
          rw [hsh] at y6
          go_wp2
          go_meet
          exact ⟨congrArg Value.bool (show false = cov xs pos p.n by rw [hcv.out, hsh]; rfl), rfl⟩
        | false =>
          rw [hsh] at y6
          by_cases hg : (f : Int) = (t : Int)
          · have eg : ((f : Int) == (t : Int)) = true := by simpa using hg
            rw [eg] at y5
            go_wp2
            go_meet
            exact ⟨congrArg Value.bool (show _ = cov xs pos p.n by rw [hcv.out, hsh]; simp; omega), rfl⟩
          · have eg : ((f : Int) == (t : Int)) = false := beq_eq_false_iff_ne.2 hg
            rw [eg] at y5
            by_cases h1 : (f : Int) ≤ pos
            · go_wp2
              go_meet
              exact ⟨congrArg Value.bool (show _ = cov xs pos p.n by rw [hcv.out, hsh]; simp [h1]), rfl⟩
            · go_wp2
              go_meet
              exact ⟨congrArg Value.bool (show _ = cov xs pos p.n by rw [hcv.out, hsh]; simp; omega), rfl⟩
      case rest =>
        obtain ⟨rfl, rfl⟩ := hcut
        obtain ⟨w8, rfl⟩ : ∃ u, u = wc := ⟨wc, rfl⟩
        clear y3 y4 y5 y6
        cases hc : cov xs pos p.n with
        | true =>
          obtain ⟨v', w', β', hrun, hAt⟩ := H6.out.push kn (by rw [List.length_map]; exact HLE.out) (by rw [HP.out]; exact hc)
          rw [HP.out] at hrun
          obtain ⟨a2, c2, hv2, -, -⟩ := hAt.row.form
          have Z := hd hAt
          rw [hv2] at hrun Z
          generalize (((ps.map RN.n).take (k + 1)).filter (cov xs pos) |>.map (fun t => (t.id : Int))).length = q at hrun Z
          clear hAt H6 hcv hv2
          go_wp2_with (at_builtin; refine wpList_append_k _ rfl _ _ 59 59 rfl _ _ rfl rfl (hrun _) ?_)
          exact ⟨⟨k + 1, β', _, _, _, by omega, by go_num, rfl, Z⟩, by simp only [intOf]; omega⟩
        | false =>
          have Z := hd (H6.out.skip kn (by rw [HP.out]; exact hc))
          clear H6 hcv
          go_wp2
          exact ⟨⟨k + 1, β, _, _, _, by omega, by go_num, rfl, Z⟩, by simp only [intOf]; omega⟩
    · obtain rfl : k = n := by omega
      have Z : Hid (SF ic 1 wr 3 β (.slice av nv cv) (((ps.map RN.n).filter (cov xs pos)).map (fun t => (t.id : Int))) ∧ (∀ k, β = some k → w.heap.size ≤ k) ∧ Below w.heap.size w wr) := by
        have := HS.out
        refine ⟨?_, this.new, this.low⟩
        have h1 := this.row
        rwa [List.take_of_length_le (by rw [List.length_map, HN.out]; exact Nat.le_refl _)] at h1
      clear HS
      go_wp2
      go_ret
      exact ⟨_, β, rfl, Z.out⟩
end Go.Proofs.Ytkkklfnooeofcab

/-! Jl -/
namespace Go.Proofs.Ytkkklfnooeofcab
open Go.RowKit Go.Lib
set_option linter.unusedVariables false

theorem Try.infoRN : (Try.prog.info? 93).map (fun i => (i.zero, i.size, i.bytes)) = some (some (.agg #[.int .i64 0, .slice none 0 0, .int .i64 0, .string ⟨#[]⟩, .bool false, .slice none 0 0]), 6, 88) := by kernel_rfl

/-- The notes kept of the first k. -/
structure RSwI (w wr : World) (xs : List El) (ps : List RN) (k : Nat) (β : Option Nat) (v : Value) : Prop where
  row : SF rnc 6 wr 93 β v ((ps.take k).filter (fun p => keepN xs p.n))
  new : ∀ j, β = some j → w.heap.size ≤ j
  low : Below w.heap.size w wr
theorem RSwI.below {w wr u : World} {xs : List El} {ps : List RN} {k : Nat} {β : Option Nat} {v : Value} (h : RSwI w wr xs ps k β v) (hb : Below wr.heap.size wr u) : RSwI w u xs ps k β v :=
  ⟨h.row.fr (S := fun _ => False) (Fr.of_below hb) (fun _ _ h => h), h.new, h.low.trans (hb.mono h.low.size)⟩
theorem RSwI.skip {w wr : World} {xs : List El} {ps : List RN} {k : Nat} {β : Option Nat} {v : Value} (h : RSwI w wr xs ps k β v) (hk : k < ps.length) (hc : keepN xs ps[k].n = false) : RSwI w wr xs ps (k + 1) β v := by
  refine ⟨?_, h.new, h.low⟩
  rw [List.take_succ_eq_append_getElem hk, List.filter_append]
  simp [hc]
  exact h.row
theorem RSwI.push {w u : World} {xs : List El} {ps : List RN} {k : Nat} {β : Option Nat} {v : Value} (h : RSwI w u xs ps k β v) (hk : k < ps.length) (hN : ps.length ≤ 256) (hc : keepN xs ps[k].n = true) :
    ∃ v' w' β', (∀ ty, (Builtin.append_ #[54, 54] ty #[v, .slice (some ⟨u.heap.size, 0, none⟩) 1 1]).run Try.prog (u.alloc (.cells (rna ps[k]) 93)) = .ok v' w') ∧ RSwI w w' xs ps (k + 1) β' v' := by
  obtain ⟨i0, hi0, hz0, hz1, hz2⟩ := info_parts Try.infoRN
  have hb : Below u.heap.size u (u.alloc (.cells (rna ps[k]) 93)) := (Below.refl _ _).alloc (Nat.le_refl _) _
  have h' := h.below hb
  have hz := heap_alloc_new u (.cells (rna ps[k]) 93)
  have hl : ((ps.take k).filter (fun p => keepN xs p.n)).length ≤ 256 := by
    have := List.length_filter_le (fun p : RN => keepN xs p.n) (ps.take k)
    rw [List.length_take] at this
    omega
  obtain ⟨v', w', hr, g', h1, h2⟩ := run_pushF sz_rnc (P := Try.prog) (u.alloc (.cells (rna ps[k]) 93)) 54 0 93 i0 _ 88 Try.underlying54 hi0 hz0 hz1 rfl hz2 β v _ h'.row ⟨u.heap.size, 0, none⟩ 1 1 [ps[k]] rfl (fun j x hj => by
    rw [add_lit, Nat.zero_add, cell_row hz]
    simp only [cl_one, rnc] at hj
    simpa [rna] using hj) (by omega) (by omega) (by omega)
  have hs := h'.low.size
  have hg' : w.heap.size ≤ g' := by
    rcases h2 with ⟨e, -⟩ | ⟨e, -⟩
    · exact h.new g' e
    · omega
  have hF : Fr (· = g') (u.alloc (.cells (rna ps[k]) 93)) w' := by
    rcases h2 with ⟨-, hf⟩ | ⟨-, hf⟩
    · exact hf
    · exact hf.mono (fun _ _ h => h.elim)
  refine ⟨v', w', some g', fun ty => hr, ?_, fun j hj => by cases hj; exact hg', h'.low.trans (hF.below hs (fun k hk => by omega))⟩
  rw [List.take_succ_eq_append_getElem hk, List.filter_append]
  simpa [hc] using h1

/-- What Sweep leaves. -/
theorem RSwI.fin {w wr : World} {O : Nat → Prop} {r g : Nat} {β0 : Option Nat} {v0 : Value} {xs : List El} {ps : List RN} {β : Option Nat} {v : Value} (hK : RBK w O r g β0 v0 ps) (h : RSwI w wr xs ps ps.length β v) :
    NowR w (wr.setCell ⟨r, 0, none⟩ v) O r g ((ps.map RN.n).filter (keepN xs)) := by
  have hF : Fr (· = r) wr (wr.setCell ⟨r, 0, none⟩ v) := Fr.setCell wr ⟨r, 0, none⟩ _ rfl
  have hFw : Fr (fun _ => False) w wr := Fr.of_below h.low
  have hbx := hFw.keeps hK.box (fun h => h)
  have hrow := h.row
  rw [List.take_length] at hrow
  have hm : (ps.map RN.n).filter (keepN xs) = (ps.filter (fun p => keepN xs p.n)).map RN.n := by rw [List.filter_map]; rfl
  have hsub : ∀ p ∈ ps.filter (fun p => keepN xs p.n), p ∈ ps := fun p hp => (List.mem_filter.1 hp).1
  have hsz := hF.size
  rw [hm]
  refine ⟨fun k => O k ∨ β = some k, ⟨β, v, _, rfl, ?_, ?_, fun p hp => ?_, hK.dis.sublist (List.filter_sublist), .inl hK.orr, fun k hk => .inr hk, fun p hp => ⟨fun k hk => .inl ((hK.on p (hsub p hp)).1 k hk), fun k hk => .inl ((hK.on p (hsub p hp)).2 k hk)⟩, ?_, hK.ids.sublist (List.filter_sublist), fun p hp => hK.bd p (hsub p hp), hK.le⟩, ?_, ?_⟩
  · have := set_row hbx 0 v
    simpa using this
  · refine hrow.fr hF (fun k hk e => ?_)
    rw [hk] at hrow
    obtain ⟨cur, hc⟩ := hrow.blk
    exact ty_ne hc hbx (by decide) e
  · have hp' := hK.rk p (hsub p hp)
    have h2 := hp'.fr hFw (fun _ _ h => h) (fun _ _ h => h)
    refine h2.fr hF (fun k hk e => ?_) (fun k hk e => ?_)
    · have := h2.el
      rw [hk] at this
      obtain ⟨cur, hc⟩ := this.blk
      exact ty_ne hc hbx (by decide) e
    · have := h2.sd
      rw [hk] at this
      obtain ⟨cur, hc⟩ := this.blk
      exact ty_ne hc hbx (by decide) e
  · rintro k (hk | hk)
    · have := hK.old k hk
      have := h.low.size
      omega
    · rw [hk] at hrow
      obtain ⟨cur, hc⟩ := hrow.blk
      have := block_lt hc
      omega
  · rintro k (hk | hk)
    · exact .inl hk
    · exact .inr (h.new k hk)
  · exact (Fr.of_below h.low : Fr O w wr).next hF (fun k _ hk => by subst hk; exact hK.orr)

set_option maxRecDepth 100000 in
set_option maxHeartbeats 8000000 in
theorem rsweep_any (O : Nat → Prop) (r g : Nat) (Ns : List Nt) (w : World) (h : RBD w O r g Ns) (a : Option Addr) (nx cx : Nat) (xs : List El) (hE : IsE w a nx cx xs) (hroom : ∀ n ∈ Ns, roomy n.sd.length 24) :
    Calls Try.prog 37 #[.pointer (some ⟨r, 0, none⟩), .slice a nx cx] w fun e w' => e = .returned (.int .i64 ((Ns.length - (Ns.filter (keepN xs)).length : Nat) : Int)) ∧ NowR w w' O r g (Ns.filter (keepN xs)) := by
  obtain ⟨β0, v0, ps, rfl, hK⟩ := h
  obtain ⟨a0, c, hv, c0, -, hc1, hc2, hr⟩ := hK.len
  have HLE := hd hK.lele
  have HA := hd (fun i hi => hK.at i hi)
  have HK := hd hK
  have HE := hd hE
  have HRM := hd (fun (i : Nat) (hi : i < ps.length) => hroom ps[i].n (List.mem_map.2 ⟨_, List.getElem_mem hi, rfl⟩))
  subst hv
  obtain ⟨n, hnn⟩ : ∃ n, ps.length = n := ⟨_, rfl⟩
  have HN := hd hnn
  have hle := HLE.out
  rw [hnn] at c0 hle hc1
  have C0 := hd c0
  have SI : Hid (RSwI w w xs ps 0 none (.slice none 0 0)) := ⟨⟨rfl, by simp⟩, fun j hj => (by cases hj), Below.refl _ _⟩
  clear hK hE hroom hnn c0
  go_enter Try.func37, Try.ntmps37
  go_wp2
  go_loopw [5, 6] (fun v i wr => ∃ (k : Nat) (β : Option Nat) (av : Option Addr) (nv cv : Nat), k ≤ n ∧ i = .int .i64 k ∧ v = .slice av nv cv ∧ Hid (RSwI w wr xs ps k β (.slice av nv cv))) (fun _ i _ => n - (intOf i).toNat)
  case atStart => exact ⟨0, none, none, 0, 0, Nat.zero_le _, rfl, rfl, SI⟩
  case round =>
    obtain ⟨k, β, av, nv, cv, hk, rfl, rfl, HS⟩ := hrel
    have c0 : wr.cell? ⟨r, 0, none⟩ = some (.slice a0 n c) := (HS.out.low.cell (p := ⟨r, 0, none⟩) hr).trans C0.out
    by_cases hlt : k < n
    · have kx : k < ps.length := by rw [HN.out]; exact hlt
      obtain ⟨b, c', hb, hv, hcell⟩ := HA.out k kx
      obtain ⟨rfl, -, -⟩ := Value.slice.inj hv
      have lb : b < w.heap.size := by
        have := HK.out.row
        rw [hb] at this
        obtain ⟨cur, hcur⟩ := this.blk
        exact block_lt hcur
      have d0 := (HS.out.low.cell (p := ⟨b, k * 6, none⟩) lb).trans (hcell 0 _ (by omega) rfl); have d1 := (HS.out.low.cell (p := ⟨b, k * 6 + 1, none⟩) lb).trans (hcell 1 _ (by omega) rfl); have d2 := (HS.out.low.cell (p := ⟨b, k * 6 + 2, none⟩) lb).trans (hcell 2 _ (by omega) rfl)
      have d3 := (HS.out.low.cell (p := ⟨b, k * 6 + 3, none⟩) lb).trans (hcell 3 _ (by omega) rfl); have d4 := (HS.out.low.cell (p := ⟨b, k * 6 + 4, none⟩) lb).trans (hcell 4 _ (by omega) rfl); have d5 := (HS.out.low.cell (p := ⟨b, k * 6 + 5, none⟩) lb).trans (hcell 5 _ (by omega) rfl)
      have j1 : (k : Int) < (n : Int) := by omega
      have CS := hd (rstands_any a nx cx xs ps[k] wr ((HK.out.rk _ (List.getElem_mem kx)).fr (S := fun _ => False) (Fr.of_below HS.out.low) (fun _ _ h => h) (fun _ _ h => h)) (HE.out.below HS.out.low) (HRM.out k kx))
      have HC0 := hd (And.intro (hcell 0 (.int .i64 (ps[k].n.id : Int)) (by omega) rfl) (And.intro (hcell 1 (.slice ps[k].ea ps[k].en ps[k].ec) (by omega) rfl) (And.intro (hcell 2 (.int .i64 ps[k].n.cl) (by omega) rfl) (And.intro (hcell 3 (.string ps[k].n.wo) (by omega) rfl) (And.intro (hcell 4 (.bool ps[k].n.sh) (by omega) rfl) (hcell 5 (.slice ps[k].sa ps[k].sn ps[k].sc) (by omega) rfl))))))
      simp only [Nat.add_zero] at HC0
      obtain ⟨p, hpp⟩ : ∃ p, ps[k] = p := ⟨_, rfl⟩
      have HP := hd hpp
      rw [hpp] at d0 d1 d2 d3 d4 d5 CS HC0
      clear hpp
      unfold rna at CS
      clear hcell hv SI
      go_wp2_with (go_at_call 40; refine CS.out.mono ?_)
      rintro e w4 ⟨y, ρ, rfl, hS, hβ, b4⟩
      obtain ⟨a1, ca, rfl, -, -⟩ := hS.form
      have H4 := HS.out.below b4
      obtain ⟨⟨f, t⟩, hft⟩ : ∃ q, reachP xs p.n.el = q := ⟨_, rfl⟩
      have hA := heap_alloc_new w4 (.cells #[.int .i64 (p.n.id : Int), .int .i64 p.n.cl, .string p.n.wo, .int .i64 (f : Int), .int .i64 (t : Int), .bool ((f : Int) == (t : Int)), .bool p.n.sh, .slice a1 p.n.sd.length ca] 47)
      have bA : Below w4.heap.size w4 (w4.alloc (.cells #[.int .i64 (p.n.id : Int), .int .i64 p.n.cl, .string p.n.wo, .int .i64 (f : Int), .int .i64 (t : Int), .bool ((f : Int) == (t : Int)), .bool p.n.sh, .slice a1 p.n.sd.length ca] 47)) := (Below.refl _ _).alloc (Nat.le_refl _) _
      have H6 := hd (H4.below bA)
      rw [hft]
      have hcv : Hid (keepN xs p.n = (!p.n.sh || !((f : Int) == (t : Int)))) := by unfold Hid keepN; rw [hft, Bool.not_and]
      have D := hd (And.intro d0 (And.intro d1 (And.intro d2 (And.intro d3 (And.intro d4 d5)))))
      clear hS hβ CS d0 d1 d2 d3 d4 d5 c0 hft
      have C6 := hd (show (w4.alloc (.cells #[.int .i64 (p.n.id : Int), .int .i64 p.n.cl, .string p.n.wo, .int .i64 (f : Int), .int .i64 (t : Int), .bool ((f : Int) == (t : Int)), .bool p.n.sh, .slice a1 p.n.sd.length ca] 47)).cell? ⟨r, 0, none⟩ = some (.slice (some ⟨b, 0, none⟩) n c) from (H6.out.low.cell (p := ⟨r, 0, none⟩) hr).trans C0.out)
      simp only [ntA]
      go_upto_region 6 with fail
      generalize w4.alloc (.cells #[.int .i64 (p.n.id : Int), .int .i64 p.n.cl, .string p.n.wo, .int .i64 (f : Int), .int .i64 (t : Int), .bool ((f : Int) == (t : Int)), .bool p.n.sh, .slice a1 p.n.sd.length ca] 47) = w6 at *
      have y5 := cell_row hA 5; have y6 := cell_row hA 6
      simp only [List.getElem?_toArray, List.getElem?_cons_zero, List.getElem?_cons_succ] at y5 y6
      clear hA
      obtain ⟨w7, rfl⟩ : ∃ u, u = w6 := ⟨w6, rfl⟩
      go_cut [34] (fun b wx => b = .bool (keepN xs p.n) ∧ wx = w7)
      case first =>
        cases hsh : p.n.sh with
        | false =>
          rw [hsh] at y6
          go_wp2
          go_meet
          exact ⟨congrArg Value.bool (show true = keepN xs p.n by rw [hcv.out, hsh]; rfl), rfl⟩
        | true =>
          rw [hsh] at y6
          go_wp2
          go_meet
          exact ⟨congrArg Value.bool (show _ = keepN xs p.n by rw [hcv.out, hsh]; rfl), rfl⟩
      case rest =>
        obtain ⟨rfl, rfl⟩ := hcut
        obtain ⟨w8, rfl⟩ : ∃ u, u = wc := ⟨wc, rfl⟩
        clear y5 y6
        have c6 := C6.out
        have L := H6.out.low
        have d0 := (L.cell (p := ⟨b, k * 6, none⟩) lb).trans HC0.out.1; have d1 := (L.cell (p := ⟨b, k * 6 + 1, none⟩) lb).trans HC0.out.2.1; have d2 := (L.cell (p := ⟨b, k * 6 + 2, none⟩) lb).trans HC0.out.2.2.1
        have d3 := (L.cell (p := ⟨b, k * 6 + 3, none⟩) lb).trans HC0.out.2.2.2.1; have d4 := (L.cell (p := ⟨b, k * 6 + 4, none⟩) lb).trans HC0.out.2.2.2.2.1; have d5 := (L.cell (p := ⟨b, k * 6 + 5, none⟩) lb).trans HC0.out.2.2.2.2.2
        clear L
        cases hc : keepN xs p.n with
        | true =>
          obtain ⟨v', w', β', hrun, hAt⟩ := H6.out.push kx HLE.out (by rw [HP.out]; exact hc)
          rw [HP.out] at hrun
          unfold rna at hrun
          obtain ⟨a2, c2, hv2, -, -⟩ := hAt.row.form
          have Z := hd hAt
          rw [hv2] at hrun Z
          generalize ((ps.take (k + 1)).filter (fun p => keepN xs p.n)).length = q at hrun Z
          clear hAt H6 hcv hv2
          go_wp2_with (at_builtin; refine wpList_append_k _ rfl _ _ 54 54 rfl _ _ rfl rfl (hrun _) ?_)
          exact ⟨⟨k + 1, β', _, _, _, by omega, by go_num, rfl, Z⟩, by simp only [intOf]; omega⟩
        | false =>
          have Z := hd (H6.out.skip kx (by rw [HP.out]; exact hc))
          clear H6 hcv
          go_wp2
          exact ⟨⟨k + 1, β, _, _, _, by omega, by go_num, rfl, Z⟩, by simp only [intOf]; omega⟩
    · obtain rfl : k = n := by omega
      have hR := HS.out
      rw [← HN.out] at hR
      have Z := hd (RSwI.fin HK.out hR)
      obtain ⟨a2, c2, hv2, -, -⟩ := hR.row.form
      rw [List.take_length] at hv2
      injection hv2 with u1 u2 u3
      have hfl : ((ps.map RN.n).filter (keepN xs)).length = nv := by
        rw [u2, List.filter_map, List.length_map]; rfl
      have hnl : nv ≤ k := by
        have := List.length_filter_le (keepN xs) (ps.map RN.n)
        rw [hfl, List.length_map, HN.out] at this
        exact this
      have hz0 := frozen_row ((Fr.of_below HS.out.low : Fr (fun _ => False) w wr).keeps HK.out.box (fun h => h)) 0
      have HFL := hd hfl
      clear HS hR u1 u2 u3 hfl
      go_wp2
      go_ret
      refine ⟨?_, Z.out⟩
      rw [HFL.out, List.length_map, HN.out]
      simp only [Int.ofNat_sub hnl]
      rfl
end Go.Proofs.Ytkkklfnooeofcab

/-! Jm -/
namespace Go.Proofs.Ytkkklfnooeofcab
open Go.RowKit Go.Lib
set_option linter.unusedVariables false

/-- The first k notes told. -/
structure RAlI (w wr : World) (xs : List El) (Ns : List Nt) (k : Nat) (β : Option Nat) (v : Value) (L : List TN) : Prop where
  row : SF tnc 8 wr 47 β v L
  new : ∀ j, β = some j → w.heap.size ≤ j
  low : Below w.heap.size w wr
  ns : L.map TN.n = Ns.take k
  ok : ∀ t ∈ L, TNok w wr xs t
theorem RAlI.below {w wr u : World} {xs : List El} {Ns : List Nt} {k : Nat} {β : Option Nat} {v : Value} {L : List TN} (h : RAlI w wr xs Ns k β v L) (hb : Below wr.heap.size wr u) : RAlI w u xs Ns k β v L :=
  ⟨h.row.fr (S := fun _ => False) (Fr.of_below hb) (fun _ _ h => h), h.new, h.low.trans (hb.mono h.low.size), h.ns, fun t ht => (h.ok t ht).fr (S := fun _ => False) (Fr.of_below hb) (fun _ _ h => h.elim)⟩
theorem RAlI.push {w u : World} {xs : List El} {Ns : List Nt} {k : Nat} {β : Option Nat} {v : Value} {L : List TN} (h : RAlI w u xs Ns k β v L) (hk : k < Ns.length) (hN : Ns.length ≤ 256) (t : TN) (ht : t.n = Ns[k]) (hok : TNok w u xs t) :
    ∃ v' w' β', (∀ ty, (Builtin.append_ #[65, 65] ty #[v, .slice (some ⟨u.heap.size, 0, none⟩) 1 1]).run Try.prog (u.alloc (.cells (tnc t).toArray 47)) = .ok v' w') ∧ RAlI w w' xs Ns (k + 1) β' v' (L ++ [t]) := by
  obtain ⟨i0, hi0, hz0, hz1, hz2⟩ := info_parts Try.infoN
  have hb : Below u.heap.size u (u.alloc (.cells (tnc t).toArray 47)) := (Below.refl _ _).alloc (Nat.le_refl _) _
  have h' := h.below hb
  have hz := heap_alloc_new u (.cells (tnc t).toArray 47)
  have hok' : TNok w (u.alloc (.cells (tnc t).toArray 47)) xs t := hok.fr (S := fun _ => False) (Fr.of_below hb) (fun _ _ h => h.elim)
  have hl : L.length ≤ 256 := by
    have := congrArg List.length h.ns
    rw [List.length_map, List.length_take] at this
    omega
  obtain ⟨v', w', hr, g', h1, h2⟩ := run_pushF sz_tnc (P := Try.prog) (u.alloc (.cells (tnc t).toArray 47)) 65 0 47 i0 _ 80 Try.underlying65 hi0 hz0 hz1 rfl hz2 β v L h'.row ⟨u.heap.size, 0, none⟩ 1 1 [t] rfl (fun j x hj => by
    rw [add_lit, Nat.zero_add, cell_row hz]
    simp only [cl_one] at hj
    simpa using hj) (by omega) (by omega) (by omega)
  have hlow := h'.low
  have hg' : w.heap.size ≤ g' := by
    rcases h2 with ⟨e, -⟩ | ⟨e, -⟩
    · exact h.new g' e
    · rw [e]; exact hlow.size
  have hF : Fr (· = g') (u.alloc (.cells (tnc t).toArray 47)) w' := by
    rcases h2 with ⟨-, hf⟩ | ⟨-, hf⟩
    · exact hf
    · exact hf.mono (fun _ _ h => h.elim)
  have hty : ∀ k cs t', k = g' → (u.alloc (.cells (tnc t).toArray 47)).heap[k]? = some (.cells cs t' (0, 0)) → t' = 47 := by
    rintro k cs t' rfl hc
    rcases h2 with ⟨e, -⟩ | ⟨e, -⟩
    · have hrow := h'.row
      rw [e] at hrow
      obtain ⟨cur, hcur⟩ := hrow.blk
      rw [hcur] at hc
      cases hc
      rfl
    · have := block_lt hc
      omega
  refine ⟨v', w', some g', fun ty => hr, h1, fun j hj => by cases hj; exact hg', hlow.trans (hF.below hlow.size (fun k hk => by omega)), ?_, fun t' ht' => ?_⟩
  · rw [List.map_append, h.ns, List.take_succ_eq_append_getElem hk, ← ht]
    rfl
  · have hk : TNok w (u.alloc (.cells (tnc t).toArray 47)) xs t' := by
      rcases List.mem_append.1 ht' with hm | hm
      · exact h'.ok t' hm
      · rw [List.mem_singleton.1 hm]; exact hok'
    exact hk.fr hF (fun k cs e hc => absurd (hty k cs _ e hc) (by decide))

set_option maxRecDepth 100000 in
set_option maxHeartbeats 8000000 in
theorem rall_any (O : Nat → Prop) (r g : Nat) (Ns : List Nt) (w : World) (h : RBD w O r g Ns) (a : Option Addr) (nx cx : Nat) (xs : List El) (hE : IsE w a nx cx xs) (hroom : ∀ n ∈ Ns, roomy n.sd.length 24) :
    Calls Try.prog 19 #[.pointer (some ⟨r, 0, none⟩), .slice a nx cx] w fun e w' => ∃ v, e = .returned v ∧ AllP w w' v Ns xs ∧ Below w.heap.size w w' := by
  obtain ⟨β0, v0, ps, rfl, hK⟩ := h
  obtain ⟨a0, c, hv, c0, -, hc1, hc2, hr⟩ := hK.len
  have HLE := hd hK.lele
  have HA := hd (fun i hi => hK.at i hi)
  have HK := hd hK
  have HE := hd hE
  have HRM := hd (fun (i : Nat) (hi : i < ps.length) => hroom ps[i].n (List.mem_map.2 ⟨_, List.getElem_mem hi, rfl⟩))
  subst hv
  obtain ⟨n, hnn⟩ : ∃ n, ps.length = n := ⟨_, rfl⟩
  have HN := hd hnn
  have hle := HLE.out
  rw [hnn] at c0 hle hc1
  have C0 := hd c0
  have SI : Hid (RAlI w w xs (ps.map RN.n) 0 none (.slice none 0 0) []) := ⟨⟨rfl, rfl⟩, fun j hj => (by cases hj), Below.refl _ _, rfl, fun t ht => by simp at ht⟩
  clear hK hE hroom hnn c0
  go_enter Try.func19, Try.ntmps19
  go_wp2
  go_loopw [5, 6] (fun v i wr => ∃ (k : Nat) (β : Option Nat) (av : Option Addr) (nv cv : Nat) (L : List TN), k ≤ n ∧ i = .int .i64 k ∧ v = .slice av nv cv ∧ Hid (RAlI w wr xs (ps.map RN.n) k β (.slice av nv cv) L)) (fun _ i _ => n - (intOf i).toNat)
  case atStart => exact ⟨0, none, none, 0, 0, [], Nat.zero_le _, rfl, rfl, SI⟩
  case round =>
    obtain ⟨k, β, av, nv, cv, L, hk, rfl, rfl, HS⟩ := hrel
    have c0 : wr.cell? ⟨r, 0, none⟩ = some (.slice a0 n c) := (HS.out.low.cell (p := ⟨r, 0, none⟩) hr).trans C0.out
    by_cases hlt : k < n
    · have kx : k < ps.length := by rw [HN.out]; exact hlt
      obtain ⟨b, c', hb, hv, hcell⟩ := HA.out k kx
      obtain ⟨rfl, -, -⟩ := Value.slice.inj hv
      have lb : b < w.heap.size := by
        have := HK.out.row
        rw [hb] at this
        obtain ⟨cur, hcur⟩ := this.blk
        exact block_lt hcur
      have d0 := (HS.out.low.cell (p := ⟨b, k * 6, none⟩) lb).trans (hcell 0 _ (by omega) rfl); have d1 := (HS.out.low.cell (p := ⟨b, k * 6 + 1, none⟩) lb).trans (hcell 1 _ (by omega) rfl); have d2 := (HS.out.low.cell (p := ⟨b, k * 6 + 2, none⟩) lb).trans (hcell 2 _ (by omega) rfl)
      have d3 := (HS.out.low.cell (p := ⟨b, k * 6 + 3, none⟩) lb).trans (hcell 3 _ (by omega) rfl); have d4 := (HS.out.low.cell (p := ⟨b, k * 6 + 4, none⟩) lb).trans (hcell 4 _ (by omega) rfl); have d5 := (HS.out.low.cell (p := ⟨b, k * 6 + 5, none⟩) lb).trans (hcell 5 _ (by omega) rfl)
      have j1 : (k : Int) < (n : Int) := by omega
      have CS := hd (rstands_any a nx cx xs ps[k] wr ((HK.out.rk _ (List.getElem_mem kx)).fr (S := fun _ => False) (Fr.of_below HS.out.low) (fun _ _ h => h) (fun _ _ h => h)) (HE.out.below HS.out.low) (HRM.out k kx))
      have kn : k < (ps.map RN.n).length := by simpa using kx
      obtain ⟨p, hpp⟩ : ∃ p, ps[k] = p := ⟨_, rfl⟩
      have HP := hd hpp
      rw [hpp] at d0 d1 d2 d3 d4 d5 CS
      clear hpp
      unfold rna at CS
      clear hcell hv SI
      go_wp2_with (go_at_call 40; refine CS.out.mono ?_)
      rintro e w4 ⟨y, ρ, rfl, hS, hβ, b4⟩
      obtain ⟨a1, ca, rfl, -, -⟩ := hS.form
      have H4 := HS.out.below b4
      obtain ⟨⟨f, t⟩, hft⟩ : ∃ q, reachP xs p.n.el = q := ⟨_, rfl⟩
      have hA := heap_alloc_new w4 (.cells (ntA p.n (f, t) (.slice a1 p.n.sd.length ca)) 47)
      have bA : Below w4.heap.size w4 (w4.alloc (.cells (ntA p.n (f, t) (.slice a1 p.n.sd.length ca)) 47)) := (Below.refl _ _).alloc (Nat.le_refl _) _
      have H6 := H4.below bA
      have hok : TNok w (w4.alloc (.cells (ntA p.n (f, t) (.slice a1 p.n.sd.length ca)) 47)) xs ⟨p.n, (f, t), a1, p.n.sd.length, ca⟩ := ⟨hft.symm, ρ, hS.fr (S := fun _ => False) (Fr.of_below bA) (fun _ _ h => h), fun k hk => by have := hβ k hk; have := HS.out.low.size; omega⟩
      obtain ⟨v', w', β', hrun, hAt⟩ := H6.push kn (by rw [List.length_map]; exact HLE.out) ⟨p.n, (f, t), a1, p.n.sd.length, ca⟩ (by rw [List.getElem_map, HP.out]) hok
      obtain ⟨a2, c2, hv2, -, -⟩ := hAt.row.form
      have Z := hd hAt
      rw [hv2] at hrun Z
      rw [hft]
      have y0 := cell_row hA 0; have y1 := cell_row hA 1; have y2 := cell_row hA 2; have y3 := cell_row hA 3
      have y4 := cell_row hA 4; have y5 := cell_row hA 5; have y6 := cell_row hA 6; have y7 := cell_row hA 7
      simp only [ntA, List.getElem?_toArray, List.getElem?_cons_zero, List.getElem?_cons_succ] at y0 y1 y2 y3 y4 y5 y6 y7
      rw [tnc_ntA] at hrun
      simp only [ntA] at hrun ⊢
      generalize (L ++ [(⟨p.n, (f, t), a1, p.n.sd.length, ca⟩ : TN)]).length = q at hrun Z
      clear hAt hv2 H6 hok bA hA H4 hS hβ b4 HS CS d0 d1 d2 d3 d4 d5 c0 hft
      go_upto_region 6 with fail
      generalize w4.alloc (.cells #[.int .i64 (p.n.id : Int), .int .i64 p.n.cl, .string p.n.wo, .int .i64 (f : Int), .int .i64 (t : Int), .bool ((f : Int) == (t : Int)), .bool p.n.sh, .slice a1 p.n.sd.length ca] 47) = w6 at *
      go_wp2_with (at_builtin; refine wpList_append_k _ rfl _ _ 65 65 rfl _ _ rfl rfl (hrun _) ?_)
      exact ⟨⟨k + 1, β', _, _, _, _, by omega, by go_num, rfl, Z⟩, by simp only [intOf]; omega⟩
    · obtain rfl : k = n := by omega
      have Z : Hid (AllP w wr (.slice av nv cv) (ps.map RN.n) xs ∧ Below w.heap.size w wr) := by
        have h := HS.out
        refine ⟨⟨L, β, h.row, h.new, ?_, h.ok⟩, h.low⟩
        rw [h.ns, List.take_of_length_le (by rw [List.length_map, HN.out]; exact Nat.le_refl _)]
      clear HS
      go_wp2
      go_ret
      exact ⟨_, rfl, Z.out⟩
end Go.Proofs.Ytkkklfnooeofcab
