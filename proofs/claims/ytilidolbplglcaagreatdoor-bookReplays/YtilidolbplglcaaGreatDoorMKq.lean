/-
  Texts put together: Kq Kr Ks.
-/
import Derived.Test.YtilidolbplglcaaGreatDoorMKn
import Derived.Defers
import Derived.Recover
import Derived.Test.YtilidolbplglcaaGreatDoorAsWalk
/-! Kq -/
namespace Go.Proofs.YtilidolbplglcaaGreatDoor
open Go.RowKit
set_option linter.unusedVariables false

/-- Where nothing went wrong. -/
theorem catch_idle (p0 p1 p2 p3 : Value) (w : World) : CallsD Tryz.prog 22 #[p0, p1, p2, p3] .returning w fun e u' w' => e = .returned (.tuple #[]) ∧ u' = .returning ∧ w' = w := by
  refine callsD_of_wpS Tryz.func22 rfl fun c₀ cs hu => ?_
  apply wpS_seq
  apply wpS_region
  simp [wpOpsS, go_sem, recoverD, hu, Tryz.ntmps22, Exit.thenS]
  refine wpS_of_wp ?_
  go_wp2_with fail
  cases c₀
  simp_all [bodyPostS, results, Tryz.results22]
/-- What the order has, to be handed out. -/
theorem Ord.outcome {w0 w : World} {o : Nat} {E : List Ed} {D : List OpE} {S : List Int} (h : Ord w0 w o E D S) (hB : BI E D) : ∃ vD β, SF opc 5 w 46 β vD D ∧ (∀ g, β = some g → w0.heap.size ≤ g) ∧ ∀ u, Below w.heap.size w u → Calls Tryz.prog 23 #[.pointer (some ⟨o, 0, none⟩)] u fun r w' => ∃ v, r = .returned (.tuple #[vD, v]) ∧ MyE w' u.heap.size v (runP [] D) ∧ Below u.heap.size u w' := by
  obtain ⟨b, cs, vs, vE, vD, βs, βE, βD, x, ls, F, hX, hC⟩ := h
  exact ⟨vD, βD, hX.d, fun g hg => hC.lo g (.inr (.inr (.inr (.inr hg)))), fun u hu => outcome_any (hX.below hu) hB⟩
/-- What Replay has behind a panic. -/
structure CtP (w0 w' : World) (D : List OpE) (code : Int) (pd pt pe : Nat) : Prop where
  ex : ∃ vD vT f, w'.cell? ⟨pd, 0, none⟩ = some vD ∧ w'.cell? ⟨pt, 0, none⟩ = some vT ∧ w'.cell? ⟨pe, 0, none⟩ = some (.iface 83 (.pointer (some ⟨f, 0, none⟩))) ∧ (∃ β, SF opc 5 w' 46 β vD D ∧ ∀ g, β = some g → w0.heap.size ≤ g) ∧ MyE w' w0.heap.size vT (runP [] D) ∧ w0.heap.size ≤ f ∧ w'.heap[f]? = some (.cells #[.int .i64 (D.length : Int), .iface 70 (.int .i64 code)] 87 (0, 0))
  fr : Fr (fun k => k = pd ∨ k = pt ∨ k = pe ∨ w0.heap.size ≤ k) w0 w'
theorem CtP.of {w0 u : World} {D : List OpE} {code : Int} {pd pt pe n : Nat} {vD vT : Value} {β : Option Nat} (hb : Below w0.heap.size w0 u)
    (h1 : w0.heap[pd]? = some (.cells #[.slice none 0 0] 24 (0, 0))) (h2 : w0.heap[pt]? = some (.cells #[.slice none 0 0] 25 (0, 0))) (h3 : w0.heap[pe]? = some (.cells #[.nilIface] 29 (0, 0))) (hne : pd ≠ pt ∧ pd ≠ pe ∧ pt ≠ pe)
    (hD : SF opc 5 u 46 β vD D) (hβ : ∀ g, β = some g → w0.heap.size ≤ g) (hT : MyE u w0.heap.size vT (runP [] D)) (hn : D.length = n) :
    CtP w0 ((((u.setCell ⟨pd, 0, none⟩ vD).setCell ⟨pt, 0, none⟩ vT).setCell ⟨pe, 0, none⟩ (.iface 83 (.pointer (some ⟨u.heap.size, 0, none⟩)))).alloc (.cells #[.int .i64 (n : Int), .iface 70 (.int .i64 code)] 87)) D code pd pt pe := by
  obtain ⟨n1, n2, n3⟩ := hne
  have l1 := block_lt h1
  have l2 := block_lt h2
  have l3 := block_lt h3
  have k1 := (hb.block _ l1).trans h1
  have k2 := (hb.block _ l2).trans h2
  have k3 := (hb.block _ l3).trans h3
  have hz := hb.size
  have F1 : Fr (· = pd) u (u.setCell ⟨pd, 0, none⟩ vD) := Fr.setCell _ _ _ rfl
  have s1 := set_row k1 0 vD
  have s2 := F1.keeps k2 (fun e => n1 e.symm)
  have s3 := F1.keeps k3 (fun e => n2 e.symm)
  have z1 : (u.setCell ⟨pd, 0, none⟩ vD).heap.size = u.heap.size := by simp
  generalize u.setCell ⟨pd, 0, none⟩ vD = A1 at *
  have F2 : Fr (· = pt) A1 (A1.setCell ⟨pt, 0, none⟩ vT) := Fr.setCell _ _ _ rfl
  have t1 := F2.keeps s1 n1
  have t2 := set_row s2 0 vT
  have t3 := F2.keeps s3 (fun e => n3 e.symm)
  have z2 : (A1.setCell ⟨pt, 0, none⟩ vT).heap.size = A1.heap.size := by simp
  generalize A1.setCell ⟨pt, 0, none⟩ vT = A2 at *
  have F3 : Fr (· = pe) A2 (A2.setCell ⟨pe, 0, none⟩ (.iface 83 (.pointer (some ⟨u.heap.size, 0, none⟩)))) := Fr.setCell _ _ _ rfl
  have v1 := F3.keeps t1 n2
  have v2 := F3.keeps t2 n3
  have v3 := set_row t3 0 (.iface 83 (.pointer (some ⟨u.heap.size, 0, none⟩)))
  have z3 : (A2.setCell ⟨pe, 0, none⟩ (.iface 83 (.pointer (some ⟨u.heap.size, 0, none⟩)))).heap.size = A2.heap.size := by simp
  generalize A2.setCell ⟨pe, 0, none⟩ (.iface 83 (.pointer (some ⟨u.heap.size, 0, none⟩))) = A3 at *
  have b4 : Below A3.heap.size A3 (A3.alloc (.cells #[.int .i64 (n : Int), .iface 70 (.int .i64 code)] 87)) := (Below.refl _ _).alloc (Nat.le_refl _) _
  have y1 := (b4.block _ (block_lt v1)).trans v1
  have y2 := (b4.block _ (block_lt v2)).trans v2
  have y3 := (b4.block _ (block_lt v3)).trans v3
  have y4 := heap_alloc_new A3 (.cells #[.int .i64 (n : Int), .iface 70 (.int .i64 code)] 87)
  generalize A3.alloc (.cells #[.int .i64 (n : Int), .iface 70 (.int .i64 code)] 87) = A4 at *
  have FA : Fr (fun k => k = pd ∨ k = pt ∨ k = pe) u A4 := (((F1.mono (fun k _ hk => .inl hk)).trans (F2.mono (fun k _ hk => .inr (.inl hk)))).trans (F3.mono (fun k _ hk => .inr (.inr hk)))).trans (Fr.of_below b4)
  have no : ∀ g, w0.heap.size ≤ g → ¬ (g = pd ∨ g = pt ∨ g = pe) := fun g hg h => by rcases h with h | h | h <;> omega
  obtain ⟨βT, hS, hβT⟩ := hT
  refine ⟨⟨vD, vT, u.heap.size, by rw [cell_row y1]; rfl, by rw [cell_row y2]; rfl, by rw [cell_row y3]; rfl, ⟨β, hD.fr FA (fun g hg => no g (hβ g hg)), hβ⟩, ⟨βT, hS.fr FA (fun g hg => no g (hβT g hg)), hβT⟩, hz, ?_⟩, ?_⟩
  · rw [hn, ← z1, ← z2, ← z3]
    exact y4
  · have F0 : Fr (fun k => w0.heap.size ≤ k) w0 u := Fr.of_below hb
    exact (F0.mono (fun k _ hk => .inr (.inr (.inr hk)))).trans (FA.mono (fun k _ hk => by rcases hk with h | h | h <;> simp [h]))
set_option maxRecDepth 100000 in
set_option maxHeartbeats 4000000 in
theorem catch_bad {w0 w : World} {o : Nat} {E : List Ed} {D : List OpE} {S : List Int} (h : Ord w0 w o E D S) (hB : BI E D) (pd pt pe : Nat) (code : Int)
    (h1 : w0.heap[pd]? = some (.cells #[.slice none 0 0] 24 (0, 0))) (h2 : w0.heap[pt]? = some (.cells #[.slice none 0 0] 25 (0, 0))) (h3 : w0.heap[pe]? = some (.cells #[.nilIface] 29 (0, 0))) (hne : pd ≠ pt ∧ pd ≠ pe ∧ pt ≠ pe) :
    CallsD Tryz.prog 22 #[.pointer (some ⟨o, 0, none⟩), .pointer (some ⟨pd, 0, none⟩), .pointer (some ⟨pt, 0, none⟩), .pointer (some ⟨pe, 0, none⟩)] (.panicking [{ v := .iface 85 (.agg #[.iface 70 (.int .i64 code)]), recovered := false }]) w fun e u' w' => e = .returned (.tuple #[]) ∧ u' = .panicking [{ v := .iface 85 (.agg #[.iface 70 (.int .i64 code)]), recovered := true }] ∧ CtP w0 w' D code pd pt pe := by
  obtain ⟨vD, βD, hD, hβ, CO0⟩ := h.outcome hB
  obtain ⟨aD, cD, hvD, -⟩ := hD.form
  obtain ⟨hbl, lo⟩ := h.blk
  have CO := hd (CO0 w (Below.refl _ _))
  obtain ⟨n, hn⟩ : ∃ n, D.length = n := ⟨_, rfl⟩
  rw [hn] at hvD
  subst hvD
  have HD := hd (And.intro hD hβ)
  have HN := hd hn
  have HB := hd hbl
  have H1 := hd h1
  have H2 := hd h2
  have H3 := hd h3
  have HNE := hd hne
  clear h hB CO0 hD hβ hn hbl lo h1 h2 h3 hne
  have CO2 : Hid (Calls Tryz.prog 23 #[.pointer (some ⟨o, 0, none⟩)] w fun r u => ∃ va m vc, r = .returned (.tuple #[.slice aD n cD, .slice va m vc]) ∧ u.cell? ⟨pd, 0, none⟩ = some (.slice none 0 0) ∧ u.cell? ⟨pt, 0, none⟩ = some (.slice none 0 0) ∧ u.cell? ⟨pe, 0, none⟩ = some .nilIface ∧ u.frozen? ⟨pd, 0, none⟩ = false ∧ u.frozen? ⟨pt, 0, none⟩ = false ∧ u.frozen? ⟨pe, 0, none⟩ = false ∧ pd < u.heap.size ∧ pt < u.heap.size ∧ pe < u.heap.size ∧ Hid (CtP w0 ((((u.setCell ⟨pd, 0, none⟩ (.slice aD n cD)).setCell ⟨pt, 0, none⟩ (.slice va m vc)).setCell ⟨pe, 0, none⟩ (.iface 83 (.pointer (some ⟨u.heap.size, 0, none⟩)))).alloc (.cells #[.int .i64 (n : Int), .iface 70 (.int .i64 code)] 87)) D code pd pt pe)) := by
    refine CO.out.mono ?_
    rintro e1 u ⟨v, rfl, hM, bu⟩
    obtain ⟨βT, hS, hβT⟩ := hM
    obtain ⟨va, vc, rfl, -, -⟩ := hS.form
    have hb2 := HB.out.trans (bu.mono HB.out.size)
    have k1 := (hb2.block _ (block_lt H1.out)).trans H1.out
    have k2 := (hb2.block _ (block_lt H2.out)).trans H2.out
    have k3 := (hb2.block _ (block_lt H3.out)).trans H3.out
    exact ⟨va, _, vc, rfl, by rw [cell_row k1]; rfl, by rw [cell_row k2]; rfl, by rw [cell_row k3]; rfl, frozen_row k1 0, frozen_row k2 0, frozen_row k3 0, block_lt k1, block_lt k2, block_lt k3, CtP.of (code := code) hb2 H1.out H2.out H3.out HNE.out (HD.out.1.fr (Fr.of_below (S := fun _ => False) bu) (fun _ _ h => h)) HD.out.2 ⟨βT, hS, fun g hg => Nat.le_trans HB.out.size (hβT g hg)⟩ HN.out⟩
  obtain ⟨n1, n2, n3⟩ := HNE.out
  have n1' := Ne.symm n1
  have n2' := Ne.symm n2
  have n3' := Ne.symm n3
  clear CO HD H1 H2 H3 HNE HB
  refine callsD_of_wpS Tryz.func22 rfl fun c₀ cs hu => ?_
  apply wpS_seq
  apply wpS_region
  simp [wpOpsS, go_sem, recoverD, hu, Tryz.ntmps22, Exit.thenS]
  refine wpS_of_wp ?_
  simp only [Array.replicate, List.reduceReplicate, List.setIfInBounds_toArray, List.set_cons_zero, List.set_cons_succ, List.append_toArray, List.cons_append, List.nil_append]
  go_wp2_with (first | (go_at_call 23; refine CO2.out.mono ?_; rintro e1 u ⟨va, m, vc, rfl, q1, q2, q3, f1, f2, f3, l1, l2, l3, Z⟩) | (go_at_call 24; refine (gaveUp_any _ _ _).mono ?_; rintro e1 u5 ⟨rfl, hu5⟩; subst hu5))
  exact ⟨rfl, _, rfl, _, by simp [results, Tryz.results22], rfl, rfl, Z.out⟩

end Go.Proofs.YtilidolbplglcaaGreatDoor

/-! Kr -/
namespace Go.Proofs.YtilidolbplglcaaGreatDoor
open Go.RowKit
set_option linter.unusedVariables false

theorem ordC_at (b c : Nat) (hc : c ≤ 64) : (ordC b)[4 + c]? = some (.pointer none) := by
  have e : (ordC b)[4 + c]? = (nilP 65)[c]? := by
    unfold ordC
    rw [List.getElem?_toArray, show 4 + c = c + 1 + 1 + 1 + 1 by omega]
    rfl
  rw [e, nilP, List.getElem?_replicate, if_pos (by omega)]
/-- A new order. -/
theorem Ord.first {w0 u : World} {b : Nat} (hm : MR u b []) (hb : Below w0.heap.size w0 u) (hlo : w0.heap.size ≤ b) :
    Ord w0 ((u.alloc (.cells Tryz.zeroCells65 65)).setCells u.heap.size 0 (ordC b).toList) u.heap.size [] [] [] := by
  have h0 := heap_alloc_new u (.cells Tryz.zeroCells65 65)
  have h1 := setCells_full h0 (ordC b).toList (by rw [Array.length_toList, ordC_size, zero_size])
  simp only [Array.toArray_toList] at h1
  have hF := Fr.setCells u.heap.size (ordC b).toList 0 (u.alloc (.cells Tryz.zeroCells65 65))
  have hB : Below u.heap.size u (u.alloc (.cells Tryz.zeroCells65 65)) := (Below.refl _ _).alloc (Nat.le_refl _) _
  have lb := hm.lt
  have hB2 : Below u.heap.size u ((u.alloc (.cells Tryz.zeroCells65 65)).setCells u.heap.size 0 (ordC b).toList) := hB.trans (hF.below hB.size (fun k hk => by omega))
  have hm2 : MR ((u.alloc (.cells Tryz.zeroCells65 65)).setCells u.heap.size 0 (ordC b).toList) b [] := hm.kp (hB2.block _ lb)
  have hz := hb.size
  have hl := block_lt h1
  have hl2 := hm2.lt
  generalize (u.alloc (.cells Tryz.zeroCells65 65)).setCells u.heap.size 0 (ordC b).toList = W at *
  refine ⟨b, ordC b, .slice none 0 0, .slice none 0 0, .slice none 0 0, none, none, none, fun _ => 0, fun _ => 0, fun _ => noObj, ⟨h1, ordC_size b, rfl, rfl, rfl, rfl, ⟨rfl, rfl⟩, ⟨rfl, rfl⟩, ⟨rfl, rfl⟩, hm2⟩, ⟨fun c hc => ordC_at b c hc, fun c _ h => absurd rfl h, (MO.nil w0).adds (hb.trans (hB2.mono hz)) ?_ ?_, ?_⟩⟩
  · rintro k (hk | hk | hk | hk | hk)
    · exact .inr (by omega)
    · exact .inr (by omega)
    · cases hk
    · cases hk
    · cases hk
  · rintro k (hk | hk | hk | hk | hk)
    · omega
    · omega
    · cases hk
    · cases hk
    · cases hk
  · rintro k (hk | hk | hk | hk | hk)
    · omega
    · omega
    · cases hk
    · cases hk
    · cases hk
/-- Where the program's Replay is. -/
def RpJ (w0 wr : World) (o : Nat) (es : List Ed) (i : Nat) : Prop :=
  ∃ D, Ord w0 wr o (es.take i) D [0] ∧ BJ (es.take i) D ∧ BQ (es.take i) ∧ repP es [] [] 0 = repP (es.drop i) (es.take i) D i
/-- What the program's Replay answers. -/
structure PrP (w w' : World) (es : List Ed) (vD vT vE : Value) : Prop where
  ex : ∃ D E code at', BJ E D ∧ repP es [] [] 0 = (D, code, at') ∧ (∃ β, SF opc 5 w' 46 β vD D ∧ ∀ g, β = some g → w.heap.size ≤ g) ∧ MyE w' w.heap.size vT (runP [] D) ∧
    ((code = 0 ∧ at' = -1 ∧ vE = .nilIface) ∨ (code ≠ 0 ∧ ∃ f, vE = .iface 83 (.pointer (some ⟨f, 0, none⟩)) ∧ w.heap.size ≤ f ∧ w'.heap[f]? = some (.cells #[.int .i64 at', .iface 70 (.int .i64 code)] 87 (0, 0))))
  bel : Below w.heap.size w w'
theorem box3 (w : World) (a b c : Obj) (ca cb cc : Array Value) (ta tb tc : TypeId) (ha : a = .cells ca ta) (hb : b = .cells cb tb) (hc : c = .cells cc tc) :
    Below w.heap.size w (((w.alloc a).alloc b).alloc c) ∧ (((w.alloc a).alloc b).alloc c).heap.size = w.heap.size + 3 ∧ (((w.alloc a).alloc b).alloc c).heap[w.heap.size]? = some (.cells ca ta (0, 0)) ∧ (((w.alloc a).alloc b).alloc c).heap[w.heap.size + 1]? = some (.cells cb tb (0, 0)) ∧ (((w.alloc a).alloc b).alloc c).heap[w.heap.size + 2]? = some (.cells cc tc (0, 0)) := by
  subst ha hb hc
  obtain ⟨h1, h2, h3⟩ := box2 w (.cells ca ta) (.cells cb tb)
  have h4 : ((w.alloc (.cells ca ta)).alloc (.cells cb tb)).heap.size = w.heap.size + 2 := by simp
  have h5 : Below (w.heap.size + 2) ((w.alloc (.cells ca ta)).alloc (.cells cb tb)) (((w.alloc (.cells ca ta)).alloc (.cells cb tb)).alloc (.cells cc tc)) := (Below.refl _ _).alloc (by omega) _
  refine ⟨h1.trans (h5.mono (by omega)), by simp, (h5.block _ (by omega)).trans h2, (h5.block _ (by omega)).trans h3, ?_⟩
  have h6 := heap_alloc_new ((w.alloc (.cells ca ta)).alloc (.cells cb tb)) (.cells cc tc)
  rw [h4] at h6
  exact h6
theorem PrP.bad {w W w' : World} {es E : List Ed} {D : List OpE} {code : Int} (hb : Below w.heap.size w W) (hJ : BJ E D) (hr : repP es [] [] 0 = (D, code, (D.length : Int))) (hc : code ≠ 0) (h : CtP W w' D code w.heap.size (w.heap.size + 1) (w.heap.size + 1 + 1)) :
    ∃ vD vT vE, w'.cell? ⟨w.heap.size, 0, none⟩ = some vD ∧ w'.cell? ⟨w.heap.size + 1, 0, none⟩ = some vT ∧ w'.cell? ⟨w.heap.size + 1 + 1, 0, none⟩ = some vE ∧ PrP w w' es vD vT vE := by
  obtain ⟨vD, vT, f, h1, h2, h3, ⟨β, h4, h5⟩, ⟨βT, h6, h7⟩, h8, h9⟩ := h.ex
  have hz := hb.size
  refine ⟨vD, vT, _, h1, h2, h3, ⟨D, E, code, _, hJ, hr, ⟨β, h4, fun g hg => Nat.le_trans hz (h5 g hg)⟩, ⟨βT, h6, fun g hg => Nat.le_trans hz (h7 g hg)⟩, .inr ⟨hc, f, rfl, Nat.le_trans hz h8, h9⟩⟩, hb.trans (h.fr.below hz (fun k hk => ?_))⟩
  rcases hk with hk | hk | hk | hk <;> omega
theorem fin3 {u : World} {p : Nat} {x1 x2 x3 v1 v2 : Value} {t1 t2 t3 : TypeId} (k1 : u.heap[p]? = some (.cells #[x1] t1 (0, 0))) (k2 : u.heap[p + 1]? = some (.cells #[x2] t2 (0, 0))) (k3 : u.heap[p + 1 + 1]? = some (.cells #[x3] t3 (0, 0))) :
    ((((((u.setCell ⟨p, 0, none⟩ (v1)).setCell ⟨p + 1, 0, none⟩ (v2)).setCell ⟨p, 0, none⟩ (v1)).setCell ⟨p + 1, 0, none⟩ (v2)).setCell ⟨p + 1 + 1, 0, none⟩ .nilIface).drew).cell? ⟨p, 0, none⟩ = some v1 ∧ ((((((u.setCell ⟨p, 0, none⟩ (v1)).setCell ⟨p + 1, 0, none⟩ (v2)).setCell ⟨p, 0, none⟩ (v1)).setCell ⟨p + 1, 0, none⟩ (v2)).setCell ⟨p + 1 + 1, 0, none⟩ .nilIface).drew).cell? ⟨p + 1, 0, none⟩ = some v2 ∧ ((((((u.setCell ⟨p, 0, none⟩ (v1)).setCell ⟨p + 1, 0, none⟩ (v2)).setCell ⟨p, 0, none⟩ (v1)).setCell ⟨p + 1, 0, none⟩ (v2)).setCell ⟨p + 1 + 1, 0, none⟩ .nilIface).drew).cell? ⟨p + 1 + 1, 0, none⟩ = some .nilIface := by
  have hd1 : ∀ (A : World) (q : Addr), A.drew.cell? q = A.cell? q := fun A q => rfl
  simp only [hd1]
  have a1 := set_row k1 0 v1
  have a2 := (Fr.setCell (S := (· = p)) u ⟨p, 0, none⟩ v1 rfl).keeps k2 (show ¬ p + 1 = p by omega)
  have a3 := (Fr.setCell (S := (· = p)) u ⟨p, 0, none⟩ v1 rfl).keeps k3 (show ¬ p + 1 + 1 = p by omega)
  generalize u.setCell ⟨p, 0, none⟩ v1 = A at *
  have b1 := (Fr.setCell (S := (· = p + 1)) A ⟨p + 1, 0, none⟩ v2 rfl).keeps a1 (show ¬ p = p + 1 by omega)
  have b2 := set_row a2 0 v2
  have b3 := (Fr.setCell (S := (· = p + 1)) A ⟨p + 1, 0, none⟩ v2 rfl).keeps a3 (show ¬ p + 1 + 1 = p + 1 by omega)
  generalize A.setCell ⟨p + 1, 0, none⟩ v2 = B at *
  have c1 := set_row b1 0 v1
  have c2 := (Fr.setCell (S := (· = p)) B ⟨p, 0, none⟩ v1 rfl).keeps b2 (show ¬ p + 1 = p by omega)
  have c3 := (Fr.setCell (S := (· = p)) B ⟨p, 0, none⟩ v1 rfl).keeps b3 (show ¬ p + 1 + 1 = p by omega)
  generalize B.setCell ⟨p, 0, none⟩ v1 = C at *
  have d1 := (Fr.setCell (S := (· = p + 1)) C ⟨p + 1, 0, none⟩ v2 rfl).keeps c1 (show ¬ p = p + 1 by omega)
  have d2 := set_row c2 0 v2
  have d3 := (Fr.setCell (S := (· = p + 1)) C ⟨p + 1, 0, none⟩ v2 rfl).keeps c3 (show ¬ p + 1 + 1 = p + 1 by omega)
  generalize C.setCell ⟨p + 1, 0, none⟩ v2 = D at *
  have e1 := (Fr.setCell (S := (· = p + 1 + 1)) D ⟨p + 1 + 1, 0, none⟩ .nilIface rfl).keeps d1 (show ¬ p = p + 1 + 1 by omega)
  have e2 := (Fr.setCell (S := (· = p + 1 + 1)) D ⟨p + 1 + 1, 0, none⟩ .nilIface rfl).keeps d2 (show ¬ p + 1 = p + 1 + 1 by omega)
  have e3 := set_row d3 0 .nilIface
  exact ⟨by rw [cell_row e1]; rfl, by rw [cell_row e2]; rfl, by rw [cell_row e3]; rfl⟩
theorem wrj {j : Nat} (h : j ≤ 4096) : wrap64 ((j : Int) + 1) = (j : Int) + 1 := by rw [wrap64]; omega
set_option maxRecDepth 100000 in
set_option maxHeartbeats 8000000 in
theorem preplay (aL : Option Addr) (nL cL : Nat) (es : List Ed) (w : World) (hL : IsL w aL nL es) (hch : ∀ e ∈ es, OkOp e.o) (hT : Table w) :
    Calls Tryz.prog 6 #[.slice aL nL cL] w fun r w' => ∃ vD vT vE, r = .returned (.tuple #[vD, vT, vE]) ∧ PrP w w' es vD vT vE := by
  have hmf : ∀ (fn : Fn) (first cap : Array Value) (w : World), (Instr.makeFunc fn first cap).run Tryz.prog w = .ok (.func fn first cap) w := fun _ _ _ _ => rfl
  obtain ⟨b3, z3, k1, k2, k3⟩ := box3 w (.cells #[.slice none 0 0] 24) (.cells #[.slice none 0 0] 25) (.cells #[.nilIface] 29) _ _ _ _ _ _ rfl rfl rfl
  have HB3 := hd b3
  have HZ3 := hd z3
  have HK := hd (And.intro k1 (And.intro k2 k3))
  have HL := hd hL
  have HCH := hd hch
  have HT := hd hT
  clear b3 z3 k1 k2 k3 hL hch hT
  go_enter_defers Tryz.func6, Tryz.ntmps6
  go_upto_region 1 with fail
  generalize ((w.alloc (.cells #[.slice none 0 0] 24)).alloc (.cells #[.slice none 0 0] 25)).alloc (.cells #[.nilIface] 29) = W at *
  have C0 := hd (newOrder_any W)
  go_upto_region 2 with (first | (go_at_call 20; refine C0.out.mono ?_; rintro e1 u ⟨rfl, hm, bu⟩) | (refine wpList_store_mid rfl 65 (.tmp 5) (.tmp 8) rfl u.heap.size 0 (ordC (W.heap.size + 1)) rfl rfl (there_of (heap_alloc_new _ _) (by rw [ordC_size, zero_size]; exact Nat.le_refl _)) (by rw [ordC_size]; exact infoOrd) (ordC_one _) ?_))
  have hz := HZ3.out
  have S0 := Ord.first hm bu (by omega)
  have C1 := hd (start_any S0 (by simp))
  simp only [List.nil_append, List.length_nil] at C1
  clear S0 hm C0 hz
  generalize (u.alloc (.cells Tryz.zeroCells65 65)).setCells u.heap.size 0 (ordC (W.heap.size + 1)).toList = W4 at *
  generalize u.heap.size = o at *
  clear bu
  go_upto_region 5 with (go_at_call 21; refine C1.out.mono ?_; rintro e1 w5 ⟨rfl, hO⟩)
  have HO := hd hO
  clear C1 hO
  go_loopw [13] (fun i wr => ∃ j : Nat, j ≤ nL ∧ i = .int .i64 (j : Int) ∧ Hid (RpJ W wr o es j)) (fun i _ => nL - (intOf i).toNat)
  case atStart => exact ⟨0, Nat.zero_le _, rfl, [], HO.out, BJ.nil, BQ.nil, rfl⟩
  case round =>
    clear HO
    obtain ⟨j, hj, rfl, HS⟩ := hrel
    obtain ⟨D, hO, hJ, hQ, hrep⟩ := HS.out
    obtain ⟨bW, lo⟩ := hO.blk
    by_cases hjn : j < nL
    · have hjE : j < es.length := by have := HL.out.1; omega
      have hlen : (es.take j).length = j := by rw [List.length_take]; omega
      have hj96 : j ≤ 4096 := by have := hJ.b.bound; omega
      have hbw := HB3.out.trans (bW.mono HB3.out.size)
      obtain ⟨bE, oE, rfl, lE, hcE⟩ := (HL.out.below hbw (Nat.le_refl _)).2 (by omega)
      obtain ⟨x0, x1, x2, x3, x4, x5⟩ := hcE j hjE
      have hdr : es.drop j = es[j] :: es.drop (j + 1) := List.drop_eq_getElem_cons hjE
      have htk : es.take (j + 1) = es.take j ++ [es[j]] := List.take_succ_eq_append_getElem hjE
      have hok := HCH.out es[j] (List.getElem_mem hjE)
      obtain ⟨e, hee⟩ : ∃ z, es[j] = z := ⟨_, rfl⟩
      rw [hee] at x0 x1 x2 x3 x4 x5 hdr htk hok
      have bA : Below wr.heap.size wr (wr.alloc (.cells #[.int .i64 e.tag, .int .i64 e.o.kind, .int .i64 e.o.pos, .int .u8 e.o.ch, .int .i64 e.o.cl, .int .i64 e.o.sq] 48)) := (Below.refl _ _).alloc (Nat.le_refl _) _
      have i1 := gq4 hjn
      have w1 : wrap64 ((j : Int) + 1) = (j : Int) + 1 := wrj hj96
      have hme := gq3 hjn
      by_cases hc0 : chkP (es.take j) D e = 0
      · have CM : Hid (Calls Tryz.prog 25 #[.pointer (some ⟨o, 0, none⟩), .agg #[.int .i64 e.tag, .int .i64 e.o.kind, .int .i64 e.o.pos, .int .u8 e.o.ch, .int .i64 e.o.cl, .int .i64 e.o.sq]] (wr.alloc (.cells #[.int .i64 e.tag, .int .i64 e.o.kind, .int .i64 e.o.pos, .int .u8 e.o.ch, .int .i64 e.o.cl, .int .i64 e.o.sq] 48)) fun r w' => r = .returned (.tuple #[]) ∧ RpJ W w' o es (j + 1)) := by
          refine (mustAdd_good (hO.below bA) hJ hQ (by simp) (HT.out.below HB3.out HT.out.1) e hok hc0).mono ?_
          rintro r w' ⟨rfl, h⟩
          refine ⟨rfl, _, by rw [htk]; exact h, by rw [htk]; exact hJ.add hc0, ?_, ?_⟩
          · rw [htk]
            obtain ⟨v, k, sq, t1, t2, ft⟩ := chk_zero hc0
            have hs := hJ.b.seq e.o.cl
            exact hQ.add (by omega)
          · rw [hrep, hdr, htk]
            simp only [repP]
            rw [if_pos hc0]
        clear hcE hdr htk hO hJ hQ hrep HS bA hok hbw
        go_wp2_with (go_at_call 25; refine CM.out.mono ?_; rintro e1 u2 ⟨rfl, hI⟩)
        exact ⟨⟨j + 1, by omega, by go_num, hI⟩, by simp [intOf]; omega⟩
      · have CM : Hid (Calls Tryz.prog 25 #[.pointer (some ⟨o, 0, none⟩), .agg #[.int .i64 e.tag, .int .i64 e.o.kind, .int .i64 e.o.pos, .int .u8 e.o.ch, .int .i64 e.o.cl, .int .i64 e.o.sq]] (wr.alloc (.cells #[.int .i64 e.tag, .int .i64 e.o.kind, .int .i64 e.o.pos, .int .u8 e.o.ch, .int .i64 e.o.cl, .int .i64 e.o.sq] 48)) fun r w' => r = .panicked [{ v := .iface 85 (.agg #[.iface 70 (.int .i64 (chkP (es.take j) D e))]), recovered := false }] ∧ Ord W w' o (es.take j) D [0]) := (mustAdd_bad (hO.below bA) hJ hQ (by simp) e hok hc0).mono (fun r w' h => ⟨h.1, h.2.1⟩)
        have HJ := hd hJ
        have HR : Hid (repP es [] [] 0 = (D, chkP (es.take j) D e, (D.length : Int))) := by
          rw [hrep, hdr]
          simp only [repP]
          rw [if_neg hc0, hJ.b.len, hlen]
          exact rfl
        obtain ⟨ck, hck⟩ : ∃ z, chkP (es.take j) D e = z := ⟨_, rfl⟩
        rw [hck] at CM HR hc0
        clear hcE hdr htk hO hJ hQ hrep HS bA hok hbw hck
        go_wp2_with (go_at_call 25; refine CM.out.mono ?_; rintro e1 u2 ⟨rfl, hI⟩)
        refine leaves_cons (f := 22) (args := #[.pointer (some ⟨o, 0, none⟩), .pointer (some ⟨w.heap.size, 0, none⟩), .pointer (some ⟨w.heap.size + 1, 0, none⟩), .pointer (some ⟨w.heap.size + 1 + 1, 0, none⟩)]) (by simp) (by simp [go_sem]) ?_
        refine (catch_bad hI HJ.out.b w.heap.size (w.heap.size + 1) (w.heap.size + 1 + 1) ck HK.out.1 HK.out.2.1 HK.out.2.2 (by omega)).mono ?_
        rintro e1 u' w2 ⟨rfl, rfl, hC⟩
        obtain ⟨vD, vT, vE, q1, q2, q3, hP⟩ := PrP.bad HB3.out HJ.out HR.out hc0 hC
        simp [Leaves, settle, results, Tryz.results6, go_sem, q1, q2, q3]
        exact ⟨_, _, _, ⟨rfl, rfl, rfl⟩, hP⟩
    · obtain rfl : j = nL := by omega
      have i3 : ¬ ((j : Int) < (j : Int)) := by omega
      obtain ⟨vD, βD, hD, hβ, CO0⟩ := hO.outcome hJ.b
      obtain ⟨aD, cD, hvD, -⟩ := hD.form
      obtain ⟨n, hn⟩ : ∃ n, D.length = n := ⟨_, rfl⟩
      rw [hn] at hvD
      subst hvD
      have CO2 : Hid (Calls Tryz.prog 23 #[.pointer (some ⟨o, 0, none⟩)] wr fun r u => ∃ va m vc, r = .returned (.tuple #[.slice aD n cD, .slice va m vc]) ∧ u.cell? ⟨w.heap.size, 0, none⟩ = some (.slice none 0 0) ∧ u.cell? ⟨w.heap.size + 1, 0, none⟩ = some (.slice none 0 0) ∧ u.cell? ⟨w.heap.size + 1 + 1, 0, none⟩ = some .nilIface ∧ u.frozen? ⟨w.heap.size, 0, none⟩ = false ∧ u.frozen? ⟨w.heap.size + 1, 0, none⟩ = false ∧ u.frozen? ⟨w.heap.size + 1 + 1, 0, none⟩ = false ∧ w.heap.size + 1 + 1 < u.heap.size ∧ Hid (∀ w', Fr (fun k => k = w.heap.size ∨ k = w.heap.size + 1 ∨ k = w.heap.size + 1 + 1) u w' → PrP w w' es (.slice aD n cD) (.slice va m vc) .nilIface) ∧ Hid (((((((u.setCell ⟨w.heap.size, 0, none⟩ (.slice aD n cD)).setCell ⟨w.heap.size + 1, 0, none⟩ (.slice va m vc)).setCell ⟨w.heap.size, 0, none⟩ (.slice aD n cD)).setCell ⟨w.heap.size + 1, 0, none⟩ (.slice va m vc)).setCell ⟨w.heap.size + 1 + 1, 0, none⟩ .nilIface).drew).cell? ⟨w.heap.size, 0, none⟩ = some (.slice aD n cD) ∧ ((((((u.setCell ⟨w.heap.size, 0, none⟩ (.slice aD n cD)).setCell ⟨w.heap.size + 1, 0, none⟩ (.slice va m vc)).setCell ⟨w.heap.size, 0, none⟩ (.slice aD n cD)).setCell ⟨w.heap.size + 1, 0, none⟩ (.slice va m vc)).setCell ⟨w.heap.size + 1 + 1, 0, none⟩ .nilIface).drew).cell? ⟨w.heap.size + 1, 0, none⟩ = some (.slice va m vc) ∧ ((((((u.setCell ⟨w.heap.size, 0, none⟩ (.slice aD n cD)).setCell ⟨w.heap.size + 1, 0, none⟩ (.slice va m vc)).setCell ⟨w.heap.size, 0, none⟩ (.slice aD n cD)).setCell ⟨w.heap.size + 1, 0, none⟩ (.slice va m vc)).setCell ⟨w.heap.size + 1 + 1, 0, none⟩ .nilIface).drew).cell? ⟨w.heap.size + 1 + 1, 0, none⟩ = some .nilIface)) := by
        refine (CO0 wr (Below.refl _ _)).mono ?_
        rintro e1 u ⟨v, rfl, hM, bu⟩
        obtain ⟨βT, hS, hβT⟩ := hM
        obtain ⟨va, vc, rfl, -, -⟩ := hS.form
        have hb2 := bW.trans (bu.mono bW.size)
        have k1 := (hb2.block _ (block_lt HK.out.1)).trans HK.out.1
        have k2 := (hb2.block _ (block_lt HK.out.2.1)).trans HK.out.2.1
        have k3 := (hb2.block _ (block_lt HK.out.2.2)).trans HK.out.2.2
        have hz := HB3.out.size
        have hzW := bW.size
        have hz3 := HZ3.out
        have hD2 := hD.fr (Fr.of_below (S := fun _ => False) bu) (fun _ _ h => h)
        refine ⟨va, _, vc, rfl, by rw [cell_row k1]; rfl, by rw [cell_row k2]; rfl, by rw [cell_row k3]; rfl, frozen_row k1 0, frozen_row k2 0, frozen_row k3 0, block_lt k3, (fun w' hF => ⟨⟨D, _, 0, -1, hJ, ?_, ⟨βD, hD2.fr hF (fun g hg h => ?_), fun g hg => Nat.le_trans hz (hβ g hg)⟩, ⟨βT, hS.fr hF (fun g hg h => ?_), fun g hg => Nat.le_trans hz (Nat.le_trans hzW (hβT g hg))⟩, .inl ⟨rfl, rfl, rfl⟩⟩, ?_⟩), fin3 k1 k2 k3⟩
        · rw [hrep, List.drop_eq_nil_of_le (by have := HL.out.1; omega)]
          rfl
        · have := hβ g hg
          rcases h with h | h | h <;> omega
        · have := hβT g hg
          rcases h with h | h | h <;> omega
        · have hb3 := HB3.out.trans (hb2.mono hz)
          refine hb3.trans (hF.below hb3.size (fun k hk => ?_))
          rcases hk with h | h | h <;> omega
      clear CO0 hD hβ hO hJ hQ hrep HS bW lo HK hn
      go_upto_region 9 with fail
      go_upto_region 10 with (go_at_call 23; refine CO2.out.mono ?_; rintro e1 u ⟨va, m, vc, rfl, q1, q2, q3, f1, f2, f3, l3, Z, HC⟩)
      have n1 : ¬ (w.heap.size = w.heap.size + 1) := by omega
      have n2 : ¬ (w.heap.size = w.heap.size + 1 + 1) := by omega
      have n3 : ¬ (w.heap.size + 1 = w.heap.size + 1 + 1) := by omega
      clear CO2
      have ST := hd (fun (A : World) (h : Fr (fun k => k = w.heap.size ∨ k = w.heap.size + 1 ∨ k = w.heap.size + 1 + 1) u A) (p : Nat) (v : Value) (hp : p = w.heap.size ∨ p = w.heap.size + 1 ∨ p = w.heap.size + 1 + 1) => h.trans (Fr.setCell (S := fun k => k = w.heap.size ∨ k = w.heap.size + 1 ∨ k = w.heap.size + 1 + 1) A ⟨p, 0, none⟩ v hp))
      go_region
      go_wp2
      have FR := (ST.out _ (ST.out _ (ST.out _ (ST.out _ (ST.out _ (Fr.refl _ u) w.heap.size (.slice aD n cD) (.inl rfl)) (w.heap.size + 1) (.slice va m vc) (.inr (.inl rfl))) w.heap.size (.slice aD n cD) (.inl rfl)) (w.heap.size + 1) (.slice va m vc) (.inr (.inl rfl))) (w.heap.size + 1 + 1) .nilIface (.inr (.inr rfl))).trans (Fr.of_below (Below.drew (Below.refl _ _)))
      refine leaves_cons (f := 22) (args := #[.pointer (some ⟨o, 0, none⟩), .pointer (some ⟨w.heap.size, 0, none⟩), .pointer (some ⟨w.heap.size + 1, 0, none⟩), .pointer (some ⟨w.heap.size + 1 + 1, 0, none⟩)]) (by simp) (by simp [go_sem]) ?_
      refine (catch_idle _ _ _ _ _).mono ?_
      rintro e1 u' w2 ⟨rfl, rfl, rfl⟩
      have HP := hd (Z.out _ FR)
      obtain ⟨r1, r2, r3⟩ := HC.out
      clear FR Z ST HC
      generalize (((((u.setCell ⟨w.heap.size, 0, none⟩ (.slice aD n cD)).setCell ⟨w.heap.size + 1, 0, none⟩ (.slice va m vc)).setCell ⟨w.heap.size, 0, none⟩ (.slice aD n cD)).setCell ⟨w.heap.size + 1, 0, none⟩ (.slice va m vc)).setCell ⟨w.heap.size + 1 + 1, 0, none⟩ .nilIface).drew = WF at *
      simp [Leaves, settle, results, Tryz.results6, go_sem, r1, r2, r3]
      exact ⟨_, _, _, ⟨rfl, rfl, rfl⟩, HP.out⟩

end Go.Proofs.YtilidolbplglcaaGreatDoor

/-! Ks -/
namespace Go.Proofs.YtilidolbplglcaaGreatDoor
open Go.RowKit Go.Extern.Stop Go.Stop Go.Extern
set_option linter.unusedVariables false

/-- All but one block is as it was. -/
def But (r : Nat) (w w' : World) : Prop := Fr (fun k => k = r) w w'
theorem But.of_below {r : Nat} {w w' : World} (h : Below w.heap.size w w') : But r w w' := Fr.of_below h
theorem But.trans {r : Nat} {a b c : World} (h : But r a b) (k : But r b c) : But r a c := Fr.trans h k
theorem But.setCell (r : Nat) (w : World) (i : Nat) (u : Value) : But r w (w.setCell ⟨r, i, none⟩ u) := Fr.setCell _ _ _ rfl
theorem But.below {r B : Nat} {w w' : World} (h : But r w w') (hB : B ≤ w.heap.size) (hr : B ≤ r) : Below B w w' := Fr.below h hB (fun k hk => hk ▸ hr)

/-- The variable errors.errorType holds the handle of the type error. -/
def Handle (w : World) : Prop := w.cell? ⟨0, 0, none⟩ = some (.iface 141 (.agg #[.pointer (some ⟨2, 29, none⟩)]))

theorem cell_lt {w : World} {a : Addr} {v : Value} (h : w.cell? a = some v) : a.block < w.heap.size := by
  by_cases hb : a.block < w.heap.size
  · exact hb
  · unfold World.cell? at h
    rw [Array.getElem?_eq_none (by omega)] at h
    simp at h

theorem Handle.below {w w' : World} {B : Nat} (h : Handle w) (hb : Below B w w') (hB : 0 < B) : Handle w' := (hb.cell (p := ⟨0, 0, none⟩) hB).trans h
theorem Handle.pos {w : World} (h : Handle w) : 0 < w.heap.size := cell_lt h

theorem but_four {w : World} {tb : Nat} (o1 o2 o3 o4 : Obj) (u : Value) : But tb w (((((w.alloc o1).alloc o2).alloc o3).alloc o4).setCell ⟨tb, 0, none⟩ u) := by
  have h : Below w.heap.size w ((((w.alloc o1).alloc o2).alloc o3).alloc o4) := by
    repeat (first | exact Below.refl _ _ | refine Below.alloc ?_ (by simp <;> omega) _)
  exact (But.of_below h).trans (But.setCell tb _ 0 u)

theorem set_four {w : World} {tb : Nat} {old : Value} (h : w.cell? ⟨tb, 0, none⟩ = some old) (o1 o2 o3 o4 : Obj) (u : Value) : (((((w.alloc o1).alloc o2).alloc o3).alloc o4).setCell ⟨tb, 0, none⟩ u).cell? ⟨tb, 0, none⟩ = some u := by
  have hb : Below w.heap.size w ((((w.alloc o1).alloc o2).alloc o3).alloc o4) := by
    repeat (first | exact Below.refl _ _ | refine Below.alloc ?_ (by simp <;> omega) _)
  have h1 := (hb.cell (p := ⟨tb, 0, none⟩) (cell_lt h)).trans h
  exact World.cell?_setCell_same _ _ _ h1

/-- errors.As at a *Errno, said of what turns. -/
theorem as_code' (b off tb : Nat) (n : Int) (old : Value) (w : World) (hg : Handle w) (ht0 : w.cell? ⟨tb, 0, none⟩ = some old) (hf0 : w.frozen? ⟨tb, 0, none⟩ = false) (he : w.cell? ⟨b, off + 1, none⟩ = some (.iface 70 (.int .i64 n))) :
    Calls Tryz.prog 37 #[.iface 83 (.pointer (some ⟨b, off, none⟩)), .iface 91 (.pointer (some ⟨tb, 0, none⟩))] w fun e w' => e = .returned (.bool true) ∧ w'.cell? ⟨tb, 0, none⟩ = some (.int .i64 n) ∧ But tb w w' := by
  refine (as_code b off n ⟨tb, 0, none⟩ old w hg ht0 hf0 he).mono ?_
  rintro e w' ⟨rfl, rfl⟩
  exact ⟨rfl, set_four ht0 _ _ _ _ _, but_four _ _ _ _ _⟩

theorem as_hit' (e : Addr) (tb : Nat) (old : Value) (w : World) (hg : Handle w) (ht0 : w.cell? ⟨tb, 0, none⟩ = some old) (hf0 : w.frozen? ⟨tb, 0, none⟩ = false) :
    Calls Tryz.prog 37 #[.iface 83 (.pointer (some e)), .iface 92 (.pointer (some ⟨tb, 0, none⟩))] w fun ev w' => ev = .returned (.bool true) ∧ w'.cell? ⟨tb, 0, none⟩ = some (.pointer (some e)) ∧ But tb w w' := by
  refine (as_hit e ⟨tb, 0, none⟩ old w hg ht0 hf0).mono ?_
  rintro ev w' ⟨rfl, rfl⟩
  exact ⟨rfl, set_four ht0 _ _ _ _ _, but_four _ _ _ _ _⟩

theorem below_but {w w' : World} {o : Obj} (h : But w.heap.size (w.alloc o) w') : Below w.heap.size w w' :=
  ((Below.refl _ _).alloc (Nat.le_refl _) o).trans (h.below (by simp) (Nat.le_refl _))

set_option maxHeartbeats 1000000 in
theorem code_any (b off : Nat) (n : Int) (w : World) (hg : Handle w) (he : w.cell? ⟨b, off + 1, none⟩ = some (.iface 70 (.int .i64 n))) :
    Calls Tryz.prog 26 #[.iface 83 (.pointer (some ⟨b, off, none⟩))] w fun e w' => e = .returned (.int .i64 n) ∧ Below w.heap.size w w' := by
  have hbel : Below w.heap.size w (w.alloc (.cells #[.int .i64 0] 70)) := (Below.refl _ _).alloc (Nat.le_refl _) _
  have hg1 := hg.below hbel hg.pos
  have he1 := (hbel.cell (p := ⟨b, off + 1, none⟩) (cell_lt he)).trans he
  have ht : (w.alloc (.cells #[.int .i64 0] 70)).cell? ⟨w.heap.size, 0, none⟩ = some (.int .i64 0) := by simp
  have hf : (w.alloc (.cells #[.int .i64 0] 70)).frozen? ⟨w.heap.size, 0, none⟩ = false := by simp
  have C := hd (as_code' b off w.heap.size n _ _ hg1 ht hf he1)
  clear hg hg1 he he1 ht hf hbel
  go_enter Tryz.func26, Tryz.ntmps26
  go_wp2_with fail
  refine C.out.mono ?_
  rintro e w1 ⟨rfl, hc, hbut⟩
  have R := hd (below_but hbut)
  clear hbut C
  go_wp2
  go_ret
  exact ⟨rfl, R.out⟩

set_option maxHeartbeats 1000000 in
theorem place_any (b off : Nat) (p : Int) (w : World) (hg : Handle w) (he : w.cell? ⟨b, off, none⟩ = some (.int .i64 p)) :
    Calls Tryz.prog 27 #[.iface 83 (.pointer (some ⟨b, off, none⟩))] w fun e w' => e = .returned (.int .i64 p) ∧ Below w.heap.size w w' := by
  have hbel : Below w.heap.size w (w.alloc (.cells #[.pointer none] 83)) := (Below.refl _ _).alloc (Nat.le_refl _) _
  have hg1 := hg.below hbel hg.pos
  have ht : (w.alloc (.cells #[.pointer none] 83)).cell? ⟨w.heap.size, 0, none⟩ = some (.pointer none) := by simp
  have hf : (w.alloc (.cells #[.pointer none] 83)).frozen? ⟨w.heap.size, 0, none⟩ = false := by simp
  have C := hd (as_hit' ⟨b, off, none⟩ w.heap.size _ _ hg1 ht hf)
  have HE := hd he
  clear hg hg1 ht hf hbel he
  go_enter Tryz.func27, Tryz.ntmps27
  go_wp2_with fail
  refine C.out.mono ?_
  rintro e w1 ⟨rfl, hc, hbut⟩
  have R := hd (below_but hbut)
  have hcell := (R.out.cell (p := ⟨b, off, none⟩) (cell_lt HE.out)).trans HE.out
  clear hbut C HE
  go_wp2
  go_ret
  exact ⟨rfl, R.out⟩


/-- A Fault in a block of its own. -/
def IsF (w : World) (v : Value) (at' code : Int) : Prop := ∃ b, v = .iface 83 (.pointer (some ⟨b, 0, none⟩)) ∧ w.heap[b]? = some (.cells #[.int .i64 at', .iface 70 (.int .i64 code)] 87 (0, 0))
theorem IsF.below {w w' : World} {v : Value} {p c : Int} (h : IsF w v p c) (hb : Below w.heap.size w w') : IsF w' v p c := by
  obtain ⟨b, e, hh⟩ := h
  exact ⟨b, e, (hb.block b (block_lt hh)).trans hh⟩


theorem IsF.code {w : World} {v : Value} {p c : Int} (h : IsF w v p c) (hg : Handle w) :
    Calls Tryz.prog 26 #[v] w fun e w' => e = .returned (.int .i64 c) ∧ Below w.heap.size w w' := by
  obtain ⟨b, rfl, hh⟩ := h
  exact code_any b 0 c w hg (by rw [cell_row hh]; rfl)
theorem IsF.place {w : World} {v : Value} {p c : Int} (h : IsF w v p c) (hg : Handle w) :
    Calls Tryz.prog 27 #[v] w fun e w' => e = .returned (.int .i64 p) ∧ Below w.heap.size w w' := by
  obtain ⟨b, rfl, hh⟩ := h
  exact place_any b 0 p w hg (by rw [cell_row hh]; rfl)


set_option maxHeartbeats 2000000 in
theorem is_err (v : Value) (p c : Int) (w : World) (hF : IsF w v p c) (hH : Handle w) : Calls Tryz.prog 7 #[v, .int .i64 c, .int .i64 p] w fun e w' => e = .returned (.bool true) ∧ Below w.heap.size w w' := by
  have HF := hd hF
  have HH := hd hH
  obtain ⟨b, rfl, -⟩ := hF
  clear hH
  go_enter Tryz.func7, Tryz.ntmps7
  go_wp2_with fail
  refine (HF.out.code HH.out).mono ?_
  rintro e w1 ⟨rfl, b1⟩
  have F1 := hd (HF.out.below b1)
  have H1 := hd (HH.out.below b1 HH.out.pos)
  have B1 := hd b1
  clear b1
  go_wp2_with fail
  refine (F1.out.place H1.out).mono ?_
  rintro e w2 ⟨rfl, b2⟩
  have R := hd (B1.out.trans (b2.mono B1.out.size))
  clear b2
  go_wp2
  go_ret
  exact ⟨by first | rfl | simp, R.out⟩

set_option maxHeartbeats 1000000 in
theorem code_nil (w : World) : Calls Tryz.prog 26 #[.nilIface] w fun e w' => e = .returned (.int .i64 0) ∧ Below w.heap.size w w' := by
  go_enter Tryz.func26, Tryz.ntmps26
  go_wp2
  go_ret
  exact ⟨rfl, (Below.refl _ _).alloc (Nat.le_refl _) _⟩

set_option maxHeartbeats 1000000 in
theorem place_nil (w : World) : Calls Tryz.prog 27 #[.nilIface] w fun e w' => e = .returned (.int .i64 (-1)) ∧ Below w.heap.size w w' := by
  go_enter Tryz.func27, Tryz.ntmps27
  go_wp2_with fail
  refine (as_nil _ _).mono ?_
  rintro e w1 ⟨rfl, hw1⟩
  subst hw1
  go_wp2
  go_ret
  exact ⟨rfl, (Below.refl _ _).alloc (Nat.le_refl _) _⟩

set_option maxHeartbeats 2000000 in
theorem is_nil (w : World) : Calls Tryz.prog 7 #[.nilIface, .int .i64 0, .int .i64 (-1)] w fun e w' => e = .returned (.bool true) ∧ Below w.heap.size w w' := by
  go_enter Tryz.func7, Tryz.ntmps7
  go_wp2_with fail
  refine (code_nil _).mono ?_
  rintro e w1 ⟨rfl, b1⟩
  have B1 := hd b1
  clear b1
  go_wp2_with fail
  refine (place_nil _).mono ?_
  rintro e w2 ⟨rfl, b2⟩
  have R := hd (B1.out.trans (b2.mono B1.out.size))
  clear b2
  go_wp2
  go_ret
  exact ⟨by first | rfl | simp, R.out⟩


end Go.Proofs.YtilidolbplglcaaGreatDoor
