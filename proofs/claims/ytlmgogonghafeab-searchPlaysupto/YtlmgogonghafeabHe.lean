/-
  The law's grownWords.
-/
import Derived.Test.YtlmgogonghafeabMG
import Derived.Test.YtlmgogonghafeabMB
namespace Go.Proofs.Ytlmgogonghafeab
open Go.RowKit Go.Lib
set_option linter.unusedVariables false

def eSt (s : ByteArray) : List Value := [.string s]
theorem szE : Sz eSt 1 := fun x => ⟨rfl, fun v hv => by simp [eSt] at hv; subst hv; rfl⟩
theorem pushes_str : PushesF eSt 1 9 42 := by
  intro w β v xs x hS hroom
  obtain ⟨i0, hi0, hz0, hz1, hz2⟩ := info_parts (show (Try.prog.info? 9).map (fun i => (i.zero, i.size, i.bytes)) = some (some (.string ByteArray.empty), 1, 16) by kernel_rfl)
  have hz := heap_alloc_new w (.cells (eSt x).toArray 9)
  obtain ⟨v', w', hr, hN⟩ := run_pushF szE (P := Try.prog) (w.alloc (.cells (eSt x).toArray 9)) 42 0 9 i0 _ 16 Try.underlying42 hi0 hz0 hz1 rfl hz2 β v xs (hS.fr (Fr.alloc (fun _ => False) _ _) (fun _ _ h => h)) ⟨w.heap.size, 0, none⟩ 1 1 [x] rfl (fun j u hj => by
    rw [add_lit, Nat.zero_add, cell_row hz]
    rw [cl_one] at hj
    simpa using hj) (by omega) (by omega) (by omega)
  exact ⟨v', w', fun ty => hr, hN⟩
theorem Try.infoSs : (Try.prog.info? 42).map (fun i => (i.zero, i.size, i.bytes)) = some (some (.slice none 0 0), 1, 24) := by kernel_rfl
theorem pushes_strs : PushesF sv 1 42 79 := pushes_sv Try.underlying79 Try.infoSs
def by8 (n : Nat) : UInt8 := UInt8.ofNat n
def mkS (i k : Nat) : ByteArray := bsA [by8 i, by8 k]
def tlS (i k : Nat) : ByteArray := bsA [by8 i, 33, by8 k]

theorem by8_wrap (n : Nat) : IntKind.u8.wrap (n : Int) = (((by8 n).toNat : Nat) : Int) := by
  have h1 : (by8 n).toNat = n % 256 := by unfold by8; simp
  rw [h1]
  show (n : Int) % 256 = _
  omega
theorem WkR.fr0 {α : Type} {f : α → List Value} {k : Nat} {e ss : TypeId} {mk : Nat → Nat → α} {wo wq wx : World} {gL K : Nat} {β : Option Nat} {s : SV} {V : Nat → SV} {T : List α} {i p : Nat} (h : WkR f k e ss mk wo wq gL K β s V T i p) (hF : Fr (fun _ => False) wq wx) : WkR f k e ss mk wo wx gL K β s V T i p :=
  ⟨h.1.fr hF (fun _ _ h => h), h.2.1.fr hF (fun h => h), h.2.2.next hF (fun _ _ h => h.elim)⟩
theorem InR.fr0 {α : Type} {f : α → List Value} {k : Nat} {e : TypeId} {mk tl : Nat → Nat → α} {wo wq wx : World} {β : Option Nat} {s : SV} {n i p : Nat} {x : Value} (h : InR f k e mk tl wo wq β s n i x p) (hF : Fr (fun _ => False) wq wx) : InR f k e mk tl wo wx β s n i x p := by
  obtain ⟨β', h1, h2, h3, h4⟩ := h
  exact ⟨β', h1.fr hF (fun _ _ h => h), h2.fr hF (fun _ _ h => h), h3.next hF (fun _ _ h => h.elim), h4⟩
/-- The string of two bytes. -/
theorem two_str (w : World) (x y : UInt8) : (convert 35 9 (.slice (some ⟨w.heap.size, 0, none⟩) 2 2)).run Try.prog (World.drew (w.alloc (.cells #[.int .u8 ((x.toNat : Nat) : Int), .int .u8 ((y.toNat : Nat) : Int)] 5))) = .ok (.string (bsA [x, y])) (w.alloc (.cells #[.int .u8 ((x.toNat : Nat) : Int), .int .u8 ((y.toNat : Nat) : Int)] 5)).drew := by
  refine run_str _ w.heap.size 0 2 2 [x, y] rfl (fun j hj => ?_)
  rw [Nat.zero_add, cell_row (w := World.drew _) (heap_alloc_new w _)]
  match j, hj with
  | 0, _ => rfl
  | 1, _ => rfl
theorem three_str (w : World) (x y z : UInt8) : (convert 35 9 (.slice (some ⟨w.heap.size, 0, none⟩) 3 3)).run Try.prog (World.drew (w.alloc (.cells #[.int .u8 ((x.toNat : Nat) : Int), .int .u8 ((y.toNat : Nat) : Int), .int .u8 ((z.toNat : Nat) : Int)] 5))) = .ok (.string (bsA [x, y, z])) (w.alloc (.cells #[.int .u8 ((x.toNat : Nat) : Int), .int .u8 ((y.toNat : Nat) : Int), .int .u8 ((z.toNat : Nat) : Int)] 5)).drew := by
  refine run_str _ w.heap.size 0 3 3 [x, y, z] rfl (fun j hj => ?_)
  rw [Nat.zero_add, cell_row (w := World.drew _) (heap_alloc_new w _)]
  match j, hj with
  | 0, _ => rfl
  | 1, _ => rfl
  | 2, _ => rfl

theorem three_str0 (w : World) (x y z : UInt8) : (convert 35 9 (.slice (some ⟨w.heap.size, 0, none⟩) 3 3)).run Try.prog ((w.alloc (.cells #[.int .u8 ((x.toNat : Nat) : Int), .int .u8 ((y.toNat : Nat) : Int), .int .u8 ((z.toNat : Nat) : Int)] 5))) = .ok (.string (bsA [x, y, z])) (w.alloc (.cells #[.int .u8 ((x.toNat : Nat) : Int), .int .u8 ((y.toNat : Nat) : Int), .int .u8 ((z.toNat : Nat) : Int)] 5)) := by
  refine run_str _ w.heap.size 0 3 3 [x, y, z] rfl (fun j hj => ?_)
  rw [Nat.zero_add, cell_row (heap_alloc_new w _)]
  match j, hj with
  | 0, _ => rfl
  | 1, _ => rfl
  | 2, _ => rfl

set_option maxRecDepth 100000 in
set_option maxHeartbeats 8000000 in
theorem grownWords_any (gL K Kc : Nat) (B : Nat → Option Nat) (V : Nat → SV) (T : Nat → List ByteArray) (w : World) (hT : ∀ j, j < K → SF eSt 1 w 9 (B j) (V j).val (T j)) (hN : ∀ j, j < K → (T j).length = (V j).n) (hC : LCs w 42 gL K V) (hL : Lists w 42 gL K B V) (hK : K ≤ 100) (hb : ∀ j, j < K → (V j).n ≤ 1000) (hKc : K ≤ Kc) (hKm : Kc ≤ 9223372036854775807) :
    Calls Try.prog 35 #[.slice (some ⟨gL, 0, none⟩) K Kc] w fun e w' => e = .returned (.bool true) ∧ Fr (fun g => ∃ j, j < K ∧ B j = some g) w w' := by
  have HN := hd hN
  have Hb := hd hb
  have HL := hd hL
  have S0 : Hid (MkR eSt 1 9 42 mkS w w gL K B V T 0) := ⟨fun j hj => by simpa using hT j hj, hC, Fr.refl _ _⟩
  clear hT hN hC hL hb
  go_enter Try.func35, Try.ntmps35
  go_wp2
  go_loopw [3] (fun i wr => ∃ a : Nat, a ≤ K ∧ i = .int .i64 a ∧ Hid (MkR eSt 1 9 42 mkS w wr gL K B V T a)) (fun i _ => K - (intOf i).toNat)
  case atStart => exact ⟨0, Nat.zero_le _, rfl, S0⟩
  case round =>
    obtain ⟨i, hi, rfl, hr⟩ := hrel
    clear S0
    by_cases hlt : i < K
    · have i1 : (i : Int) < (K : Int) := by omega
      have hNi := hd (HN.out i hlt)
      have hbi := Hb.out i hlt
      have W0 := hd (hr.out.begin hlt)
      have hgi := hd (HL.out.ng i hlt)
      have NX : Hid (∀ wq p, WkR eSt 1 9 42 mkS wr wq gL K (B i) (V i) V (T i) i p → (T i).length ≤ p → p ≤ (T i).length → MkR eSt 1 9 42 mkS w wq gL K B V T (i + 1)) := fun wq p hq h1 h2 => hr.out.next HL.out hlt hq h1 h2
      have CL : Hid (∀ wq p, WkR eSt 1 9 42 mkS wr wq gL K (B i) (V i) V (T i) i p → wq.cell? ⟨gL, i, none⟩ = some (.slice (V i).a (V i).n (V i).c)) := fun wq p hq => hq.2.1.cell i hlt
      clear hr
      generalize V i = s at *
      generalize T i = Ti at *
      generalize B i = bi at *
      obtain ⟨sa, sn, sc⟩ := s
      have hNi' : Ti.length = sn := hNi.out
      clear hNi
      simp only at hbi
      go_wp2
      go_loopw [4] (fun k wq => ∃ a : Nat, a ≤ sn ∧ k = .int .i64 a ∧ Hid (WkR eSt 1 9 42 mkS wr wq gL K bi ⟨sa, sn, sc⟩ V Ti i a)) (fun k _ => sn - (intOf k).toNat)
      case atStart => exact ⟨0, Nat.zero_le _, rfl, W0⟩
      case round =>
        obtain ⟨k, hk, rfl, hq⟩ := hrel
        clear W0
        have cl := CL.out _ _ hq.out
        by_cases hkn : k < sn
        · have hlg := HL.out.gl
          have q2 := hq.out.fr0 ((Fr.alloc (fun _ => False) wr (.cells #[.int .u8 (((by8 i).toNat : Nat) : Int), .int .u8 (((by8 k).toNat : Nat) : Int)] 5)).trans (Fr.drew _ _))
          have cl2 := CL.out _ _ q2
          obtain ⟨g, hga, ⟨v0, c0⟩, f0, hst⟩ := q2.step1 szE (by omega) hgi.out
          have hga : sa = some ⟨g, 0, none⟩ := hga
          subst hga
          have i2 : (k : Int) < (sn : Int) := by omega
          have hcv := two_str wr (by8 i) (by8 k)
          have S2 : Hid (WkR eSt 1 9 42 mkS _ ((wr.alloc (.cells #[.int .u8 (((by8 i).toNat : Nat) : Int), .int .u8 (((by8 k).toNat : Nat) : Int)] 5)).setCell ⟨g, k, none⟩ (.string (mkS i k))).drew gL K bi ⟨some ⟨g, 0, none⟩, sn, sc⟩ V Ti i (k + 1)) := hst (.string (mkS i k)) rfl
          have hw1 := by8_wrap i
          have hw2 := by8_wrap k
          rw [show bsA [by8 i, by8 k] = mkS i k from rfl] at hcv
          generalize (by8 i).toNat = bi8 at *
          generalize (by8 k).toNat = bk8 at *
          clear hq hst q2 hlg
          go_wp2
          go_region_law (fail)
          all_goals
            go_wp2
            exact ⟨⟨k + 1, by omega, by go_num, S2⟩, by simp [intOf]; omega⟩
        · have M2 := hd (NX.out _ _ hq.out (by omega) (by omega))
          clear hq
          go_wp2
          exact ⟨⟨i + 1, by omega, by go_num, M2⟩, by simp [intOf]; omega⟩
    · have i1 : ¬ (i : Int) < (K : Int) := by omega
      have G0 : Hid (GrR eSt 1 9 42 mkS tlS w wr gL K B V (.slice none 0 0) 0) := GrR.begin hr.out szE (by omega) HN.out
      clear hr
      go_wp2
      go_loopw [5, 6] (fun gv ii wq => ∃ a : Nat, a ≤ K ∧ ii = .int .i64 a ∧ Hid (GrR eSt 1 9 42 mkS tlS w wq gL K B V gv a)) (fun _ ii _ => K - (intOf ii).toNat)
      case atStart => exact ⟨0, Nat.zero_le _, rfl, G0⟩
      case round =>
        obtain ⟨q, hq, rfl, hg⟩ := hrel
        clear G0
        obtain ⟨va, vc, rfl⟩ := hg.out.form
        by_cases hqK : q < K
        · have i2 : (q : Int) < (K : Int) := by omega
          have cl : wr.cell? ⟨gL, q, none⟩ = some (.slice (V q).a (V q).n (V q).c) := by
            obtain ⟨H, vs, β, h⟩ := hg.out
            exact h.lc.cell q hqK
          have I0 : Hid (InR eSt 1 9 mkS tlS wr wr (B q) (V q) (V q).n q (.slice (V q).a (V q).n (V q).c) 0) := hg.out.inside hqK
          have hbq := Hb.out q hqK
          have hBq : Hid (∀ g, B q = some g → g < wr.heap.size) := fun g e => Nat.lt_of_lt_of_le (HL.out.lt q g hqK e) hg.out.frm.size
          have II : Hid (∀ wq x, InR eSt 1 9 mkS tlS wr wq (B q) (V q) (V q).n q x 64 → ∃ (a b : Option Addr) (c d : Nat) (w3 : World), x = .slice a ((V q).n + 64) c ∧ (∀ ty, (Builtin.append_ #[79, 79] ty #[.slice va q vc, .slice (some ⟨wq.heap.size, 0, none⟩) 1 1]).run Try.prog (wq.alloc (.cells #[.slice a ((V q).n + 64) c] 42)) = .ok (.slice b (q + 1) d) w3) ∧ GrR eSt 1 9 42 mkS tlS w w3 gL K B V (.slice b (q + 1) d) (q + 1)) := fun wq x hx => hg.out.step szE HL.out pushes_strs hqK (by omega) hx
          clear hg
          generalize B q = bq at *
          generalize V q = s at *
          obtain ⟨sa, sn, sc⟩ := s
          simp only at hbq
          go_wp2
          go_loopw [7, 8] (fun x k wq => ∃ a : Nat, a ≤ 64 ∧ k = .int .i64 a ∧ Hid (InR eSt 1 9 mkS tlS wr wq bq ⟨sa, sn, sc⟩ sn q x a)) (fun _ k _ => 64 - (intOf k).toNat)
          case atStart => exact ⟨0, Nat.zero_le _, rfl, I0⟩
          case round =>
            obtain ⟨k, hk, rfl, hx⟩ := hrel
            clear I0
            obtain ⟨xa, xc, hxv⟩ := hx.out.form
            subst hxv
            by_cases hk64 : k < 64
            · have i3 : (k : Int) < 64 := by omega
              have q2 := hx.out.fr0 (Fr.alloc (fun _ => False) wr (.cells #[.int .u8 (((by8 q).toNat : Nat) : Int), .int .u8 ((((33 : UInt8)).toNat : Nat) : Int), .int .u8 (((by8 k).toNat : Nat) : Int)] 5))
              obtain ⟨a3, c3, w3, hap, hI⟩ := q2.push pushes_str szE hBq.out (by omega)
              have I3 := hd hI
              have hcv := three_str0 wr (by8 q) 33 (by8 k)
              have hw1 := by8_wrap q
              have hw2 := by8_wrap k
              simp only [eSt] at hap
              have hz3 : ∀ o, (wr.alloc o).heap.size = wr.heap.size + 1 := fun o => by simp
              rw [hz3] at hap
              clear hz3
              rw [show bsA [by8 q, 33, by8 k] = tlS q k from rfl] at hcv
              rw [show (((33 : UInt8).toNat : Nat) : Int) = 33 from rfl] at hcv hap
              generalize (by8 q).toNat = bi8 at *
              generalize (by8 k).toNat = bk8 at *
              generalize tlS q k = s3 at *
              clear hx hI q2
              go_wp2_with (at_builtin; refine wpList_append_k _ rfl _ _ 42 42 rfl _ _ rfl rfl (hap _) ?_)
              exact ⟨⟨k + 1, by omega, by go_num, I3⟩, by simp [intOf]; omega⟩
            · have i3 : ¬ (k : Int) < 64 := by omega
              obtain rfl : k = 64 := by omega
              obtain ⟨a4, b4, c4, d4, w3, hxv, hap, hG⟩ := II.out _ _ hx.out
              obtain ⟨rfl, -, rfl⟩ := Value.slice.inj hxv
              have G3 := hd hG
              clear hx hG hxv
              go_wp2_with (at_builtin; refine wpList_append_k _ rfl _ _ 79 79 rfl _ _ rfl rfl (hap _) ?_)
              exact ⟨⟨q + 1, by omega, by go_num, G3⟩, by simp [intOf]; omega⟩
        · have i2 : ¬ (q : Int) < (K : Int) := by omega
          have FF := hd hg.out.frm
          obtain ⟨e1, e2, e3⟩ := hg.out.done (by omega)
          obtain ⟨a5, c5, hv5, hc5, hc6, e4⟩ := e3
          obtain ⟨rfl, hqq, rfl⟩ := Value.slice.inj hv5
          subst hqq
          have OLD := hd e1
          have LL := hd e2
          have NEW := hd e4
          clear hg e1 e2 e4 hv5
          go_wp2
          go_loopw [9] (fun ii wq => ∃ a : Nat, a ≤ q ∧ ii = .int .i64 a ∧ Hid (Fr (fun _ => False) wr wq)) (fun ii _ => q - (intOf ii).toNat)
          case atStart => exact ⟨0, Nat.zero_le _, rfl, Fr.refl _ _⟩
          case round =>
            obtain ⟨u, hu, rfl, hF⟩ := hrel
            by_cases huK : u < q
            · have i3 : (u : Int) < (q : Int) := by omega
              have cl := hF.out.cellK (LL.out.cell u huK)
              obtain ⟨gg, hh, dd, rfl, cg, hd1, hd2, hC0⟩ := NEW.out u huK
              have hC := hd hC0
              have cg := hF.out.cellK cg
              obtain ⟨o1, o2, o3, o4⟩ := OLD.out u huK
              have hO := hd o4
              have hbu := Hb.out u huK
              clear hC0 o1 o4
              generalize V u = s at *
              obtain ⟨sa, sn, sc⟩ := s
              go_wp2
              go_loopw [11] (fun k wx => ∃ a : Nat, a ≤ sn + 64 ∧ k = .int .i64 a ∧ Hid (Fr (fun _ => False) wr wx)) (fun k _ => sn + 64 - (intOf k).toNat)
              case atStart => exact ⟨0, Nat.zero_le _, rfl, Fr.refl _ _⟩
              case round =>
                obtain ⟨k, hk, rfl, hG⟩ := hrel
                by_cases hkn : k < sn + 64
                · have i4 : (k : Int) < (sn : Int) + 64 := by omega
                  have lH : (mkL mkS sn u ++ mkL tlS 64 u).length = sn + 64 := by rw [List.length_append, mkL_len, mkL_len]
                  have lH : (mkL mkS sn u ++ mkL tlS 64 u).length = sn + 64 := by rw [List.length_append, mkL_len, mkL_len]
                  have FG := hd (hF.out.trans hG.out)
                  have h0 := hC.out k (by rw [lH]; exact hkn) 0 (by omega)
                  rw [mix_at] at h0
                  simp only [Nat.mul_one, Nat.add_zero] at h0
                  have cl := hG.out.cellK cl
                  have cg := hG.out.cellK cg
                  by_cases hkm : k < sn
                  · rw [if_pos hkm] at h0
                    have h0 := FG.out.cellK (h0.trans (show (eSt (mkS u k))[0]? = some (.string (mkS u k)) from rfl))
                    obtain ⟨g, -, hga, -, hC2⟩ := hO.out (by omega)
                    have hga : sa = some ⟨g, 0, none⟩ := hga
                    subst hga
                    have b0 := hC2 k (by rw [mkL_len]; exact hkm) 0 (by omega)
                    rw [mkL_at] at b0
                    simp only [Nat.mul_one, Nat.add_zero] at b0
                    have b0 := FG.out.cellK (b0.trans (show (eSt (mkS u k))[0]? = some (.string (mkS u k)) from rfl))
                    have i5 : (k : Int) < (sn : Int) := by omega
                    clear hC2 lH
                    have hcv : ∀ W : World, W.heap[wr.heap.size]? = some (.cells #[.int .u8 (((by8 u).toNat : Nat) : Int), .int .u8 (((by8 k).toNat : Nat) : Int)] 5 (0, 0)) → (convert 35 9 (.slice (some ⟨wr.heap.size, 0, none⟩) 2 2)).run Try.prog W = .ok (.string (mkS u k)) W := fun W hW => run_str W wr.heap.size 0 2 2 [by8 u, by8 k] rfl (fun j hj => by
                      rw [Nat.zero_add, cell_row hW]
                      match j, hj with
                      | 0, _ => rfl
                      | 1, _ => rfl)
                    go_wp2
                    refine wp_opsD (o' := opsGwA) (by kernel_rfl) ?_
                    refine regGwA _ wr gL q Kc u k sn gg q vc hh dd _ _ (mkS u k) g sc huK huK cl cg h0 hkn (by8_wrap u) b0 hkm (by8_wrap k) hcv (by simp) rfl rfl rfl rfl rfl ?_
                    intro L' val u' hL' hW' hV'
                    have v58 : val 58 = .bool false := by
                      rcases hV' 58 with h | h | h
                      · cases h
                      · exact (Option.some.inj h).symm
                      · exact absurd (by decide) h
                    have Z := hd (hG.out.trans hW'.1)
                    clear hW' hV' hL' hcv
                    simp only [slGwA, DGwA, List.getD_cons_zero, List.getD_cons_succ, List.map_cons, List.map_nil, puts, List.foldl_cons, List.foldl_nil, Act.put, List.setIfInBounds_toArray, List.set_cons_succ, List.set_cons_zero]
                    rw [v58]
                    go_wp2
                    exact ⟨⟨k + 1, by omega, by go_num, Z⟩, by simp [intOf]; omega⟩
                  · rw [if_neg hkm] at h0
                    obtain ⟨p, rfl⟩ : ∃ p, k = sn + p := ⟨k - sn, by omega⟩
                    rw [show sn + p - sn = p by omega] at h0
                    have h0 := FG.out.cellK (h0.trans (show (eSt (tlS u p))[0]? = some (.string (tlS u p)) from rfl))
                    have i5 : ¬ ((sn + p : Nat) : Int) < (sn : Int) := by omega
                    clear lH
                    have hcv : ∀ W : World, W.heap[wr.heap.size]? = some (.cells #[.int .u8 (((by8 u).toNat : Nat) : Int), .int .u8 33, .int .u8 (((by8 p).toNat : Nat) : Int)] 5 (0, 0)) → (convert 35 9 (.slice (some ⟨wr.heap.size, 0, none⟩) 3 3)).run Try.prog W = .ok (.string (tlS u p)) W := fun W hW => run_str W wr.heap.size 0 3 3 [by8 u, 33, by8 p] rfl (fun j hj => by
                      rw [Nat.zero_add, cell_row hW]
                      match j, hj with
                      | 0, _ => rfl
                      | 1, _ => rfl
                      | 2, _ => rfl)
                    go_wp2
                    refine wp_opsD (o' := opsGwB) (by kernel_rfl) ?_
                    refine regGwB _ wr gL q Kc u (sn + p) sn gg q vc hh dd _ _ (tlS u p) p huK huK cg h0 hkn (by8_wrap u) hkm (by omega) (by8_wrap p) (by omega) hcv (by simp) rfl rfl rfl rfl ?_
                    intro L' val u' hL' hW' hV'
                    have v58 : val 58 = .bool false := by
                      rcases hV' 58 with h | h | h
                      · cases h
                      · exact (Option.some.inj h).symm
                      · exact absurd (by decide) h
                    have Z := hd (hG.out.trans hW'.1)
                    clear hW' hV' hL' hcv
                    simp only [slGwB, DGwB, List.getD_cons_zero, List.getD_cons_succ, List.map_cons, List.map_nil, puts, List.foldl_cons, List.foldl_nil, Act.put, List.setIfInBounds_toArray, List.set_cons_succ, List.set_cons_zero]
                    rw [v58]
                    go_wp2
                    exact ⟨⟨sn + p + 1, by omega, by go_num, Z⟩, by simp [intOf]; omega⟩
                · go_wp2
                  exact ⟨⟨u + 1, by omega, by go_num, hF.out.trans hG.out⟩, by simp [intOf]; omega⟩
            · go_wp2
              go_ret
              exact ⟨rfl, FF.out.next hF.out (fun _ _ h => h.elim)⟩
end Go.Proofs.Ytlmgogonghafeab
