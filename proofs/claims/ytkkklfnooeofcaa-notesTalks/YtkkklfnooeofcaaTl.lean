/-
  NotesTalks, walked.
-/
import Derived.Test.YtkkklfnooeofcaaTk
namespace Go.Proofs.Ytkkklfnooeofcaa
open Go.RowKit Go.Maps Go.ChangeMaps Go.MapKept Go.WideMaps
set_option linter.unusedVariables false

/-- Is the note shut behind k rounds? -/
def shB (t : Int) (k : Nat) : Bool := decide (0 ≤ t ∧ t < (k : Int))
theorem shB_at {t : Int} {k : Nat} (h : (k : Int) = t) : shB t k = false ∧ shB t (k + 1) = true := by
  constructor
  · simp [shB]; omega
  · simp [shB]; omega
theorem shB_off {t : Int} {k : Nat} (h : ¬ (k : Int) = t) : shB t (k + 1) = shB t k := by
  unfold shB
  rw [decide_eq_decide]
  omega

/-- What an answer leads to: the error E, and what becomes of the world. -/
def OutP (w w3 wx : World) (r g : Nat) (W : List (Int × ByteArray)) (sh : Bool) (v : Value) (x : Nat) (cc : Int) (s : ByteArray) (k : Nat) (E : Int) : Prop :=
  (W.length ≤ k + 1 ∧ TkX w wx r g W sh v x cc s ∧ (((cc < 1 ∨ 64 < cc) ∧ E = 235) ∨ (¬ cc < 1 ∧ ¬ 64 < cc ∧ ((okW s = false ∧ E = 231) ∨ (okW s = true ∧ sh = true ∧ E = 233))))) ∨
  (¬ cc < 1 ∧ ¬ 64 < cc ∧ okW s = true ∧ sh = false ∧ E = 0 ∧ wx.heap[x]? = some (.cells #[.int .i64 cc, .string s] 45 (0, 0)) ∧ ∃ v' w', (∀ ty, (Builtin.append_ #[35, 35] ty #[v, .slice (some ⟨wx.heap.size, 0, none⟩) 1 1]).run Try.prog (wx.alloc (.cells #[.int .i64 cc, .string s] 45)) = .ok v' w') ∧ (W ++ [(cc, s)]).length ≤ k + 1 ∧ TkX w w' r g (W ++ [(cc, s)]) sh v' x cc s)

set_option maxRecDepth 100000 in
set_option maxHeartbeats 4000000 in
theorem talks_any (a : Option Addr) (n c : Nat) (xs : List (Int × ByteArray)) (t : Int) (w : World) (hQ : IsQ w a n c xs) (hn : n * 24 ≤ 140737488351232) :
    Calls Try.prog 4 #[.slice a n c, .int .i64 t] w fun e w' => e = .returned (.bool true) ∧ Below w.heap.size w w' := by
  have HQ := hd hQ
  have HL := hd hQ.1
  have hnc := hQ.2.1
  have hc63 := hQ.2.2.1
  have HN := hd hn
  clear hQ hn
  go_enter Try.func4, Try.ntmps4
  go_wp2_with fail
  refine (fixed_any w).mono ?_
  rintro e w1 ⟨r, O, g, rfl, h1, h2, h3, h4, h5, h6⟩
  have I0 : Hid (TkI w w1 r g [] (shB t 0) (.slice none 0 0)) := by
    have e : shB t 0 = false := by simp [shB]
    rw [e]
    exact ⟨O, none, h1, ⟨rfl, rfl⟩, fun k hk => (by cases hk), h2, h4, h5, h6⟩
  have e0 : Hid (shB t 0 = false) := by unfold Hid; simp [shB]
  clear h1 h2 h3 h4 h5 h6
  go_wp2_with fail
  go_loopw [8, 9, 10] (fun v sb i wr => ∃ k : Nat, k ≤ n ∧ i = .int .i64 k ∧ sb = .bool (shB t k) ∧ ∃ W : List (Int × ByteArray), Hid (W.length ≤ k ∧ TkI w wr r g W (shB t k) v)) (fun _ _ i _ => n - (intOf i).toNat)
  case atStart => exact ⟨0, Nat.zero_le _, rfl, by rw [e0.out], [], hd ⟨by simp, I0.out⟩⟩
  case round =>
    obtain ⟨k, hk, rfl, rfl, W, HI⟩ := hrel
    clear I0 e0
    by_cases hlt : k < n
    · go_upto_if 30 with fail
      go_cut [9] (fun sb wx => sb = .bool (shB t (k + 1)) ∧ Hid (TkI w wx r g W (shB t (k + 1)) u8))
      case first =>
        by_cases hs : (k : Int) = t
        · have hsb : ((k : Int) == t) = true := by simpa using hs
          have E1 := hd (shB_at hs).1
          have E2 := hd (shB_at hs).2
          have HI2 := hd HI.out.2
          rw [E1.out] at HI2
          obtain ⟨O, hBD, hNow⟩ := HI2.out.bd
          have CS := hd (shut_good O r 1 [] [] _ wr hBD rfl)
          have NW := hd hNow
          clear HI HI2 hs hBD hNow
          go_wp2_with fail
          refine CS.out.mono ?_
          rintro e w2 ⟨rfl, hN⟩
          have T2 := hd (NW.out w2 W true hN rfl)
          obtain ⟨O2, hBD2, -⟩ := T2.out.bd
          have CS2 := hd (shut_bad O2 r 1 [] [] _ w2 hBD2 rfl)
          clear hBD2 hN CS NW
          go_wp2_with fail
          refine CS2.out.mono ?_
          rintro e w3 ⟨rfl, rfl⟩
          go_wp2
          go_meet
          exact ⟨by rw [E2.out], by rw [E2.out]; exact T2⟩
        · have hsb : ((k : Int) == t) = false := by simpa using hs
          have E1 := hd (shB_off hs)
          have HI2 := hd HI.out.2
          clear HI hs
          go_wp2
          go_meet
          exact ⟨by rw [E1.out], by rw [E1.out]; exact HI2⟩
      case rest =>
        obtain ⟨rfl, HT⟩ := hcut
        obtain ⟨w2, rfl⟩ : ∃ u, u = wc := ⟨wc, rfl⟩
        have HW : Hid (W.length ≤ k) := HI.out.1
        clear HI
        generalize hsh : shB t (k + 1) = sh at *
        have HSH := hd hsh
        clear hsh
        have hx : k < xs.length := by rw [HL.out]; exact hlt
        obtain ⟨ab, off, rfl, hab, p0, p1⟩ := HQ.out.at k hx
        have BL := HT.out.low
        have p0 := (BL.cell (p := ⟨ab, off + k * 2, none⟩) hab).trans p0
        have p1 := (BL.cell (p := ⟨ab, off + k * 2 + 1, none⟩) hab).trans p1
        have HS63 := hd (HQ.out.2.2.2.1 xs[k] (List.getElem_mem hx))
        generalize xs[k] = y at *
        obtain ⟨cc, s⟩ := y
        simp only at p0 p1
        have X0 := hd (HT.out.new cc s)
        clear BL HT
        go_upto_region 14 with fail
        generalize w2.alloc (.cells #[.int .i64 cc, .string s] 45) = w3 at *
        have q0 := cell_row X0.out.2.1 0
        have q1 := cell_row X0.out.2.1 1
        simp at q0 q1
        obtain ⟨O, hBD, hNow, hKeep⟩ := X0.out.bd
        have NW := hd hNow
        have KX := hd hKeep
        have HBD := hd hBD
        clear hBD hNow hKeep
        have HRM : Hid (roomy (W.length + 1) 24) := by
          have := HW.out
          have := HN.out
          unfold Hid roomy
          omega
        have G5 : ∀ (P : Prop), (cc < 1 → P) → (¬ cc < 1 → 64 < cc → P) → (¬ cc < 1 → ¬ 64 < cc → okW s = false → P) → (¬ cc < 1 → ¬ 64 < cc → okW s = true → sh = true → P) → (¬ cc < 1 → ¬ 64 < cc → okW s = true → sh = false → P) → P := by
          intro P h1 h2 h3 h4 h5
          by_cases c1 : cc < 1
          · exact h1 c1
          · by_cases c2 : 64 < cc
            · exact h2 c1 c2
            · cases c3 : okW s
              · exact h3 c1 c2 c3
              · cases c4 : sh
                · exact h5 c1 c2 c3 c4
                · exact h4 c1 c2 c3 c4
        go_cut [12] (fun ev wx => ∃ E, ev = .int .i64 E ∧ Hid (OutP w w3 wx r g W sh u8 w2.heap.size cc s k E))
        case first =>
          refine G5 _ ?_ ?_ ?_ ?_ ?_
          · intro c1
            have CR := hd (reply_say O r 1 [] [] _ cc s w3 HBD.out HS63.out (by rw [say_hand (.inl c1)]; decide))
            rw [say_hand (.inl c1)] at CR
            have X5 : Hid (OutP w w3 w3 r g W sh u8 w2.heap.size cc s k 235) := .inl ⟨by have := HW.out; omega, X0.out, .inl ⟨.inl c1, rfl⟩⟩
            clear X0 NW KX HBD HRM G5
            go_wp2_with fail
            refine CR.out.mono ?_
            rintro e w4 ⟨rfl, rfl⟩
            go_wp2
            go_meet
            exact ⟨_, rfl, X5⟩
          · intro c1 c2
            have CR := hd (reply_say O r 1 [] [] _ cc s w3 HBD.out HS63.out (by rw [say_hand (.inr c2)]; decide))
            rw [say_hand (.inr c2)] at CR
            have X5 : Hid (OutP w w3 w3 r g W sh u8 w2.heap.size cc s k 235) := .inl ⟨by have := HW.out; omega, X0.out, .inl ⟨.inr c2, rfl⟩⟩
            clear X0 NW KX HBD HRM G5
            go_wp2_with fail
            refine CR.out.mono ?_
            rintro e w4 ⟨rfl, rfl⟩
            go_wp2
            go_meet
            exact ⟨_, rfl, X5⟩
          · intro c1 c2 c3
            have CR := hd (reply_say O r 1 [] [] _ cc s w3 HBD.out HS63.out (by rw [say_bad c1 c2 c3]; decide))
            rw [say_bad c1 c2 c3] at CR
            have X5 : Hid (OutP w w3 w3 r g W sh u8 w2.heap.size cc s k 231) := .inl ⟨by have := HW.out; omega, X0.out, .inr ⟨c1, c2, .inl ⟨c3, rfl⟩⟩⟩
            clear X0 NW KX HBD HRM G5 c3
            go_wp2_with fail
            refine CR.out.mono ?_
            rintro e w4 ⟨rfl, rfl⟩
            go_wp2
            go_meet
            exact ⟨_, rfl, X5⟩
          · intro c1 c2 c3 c4
            have CR := hd (reply_shut O r 1 [] [] _ cc s w3 HBD.out HS63.out (say_ok c1 c2 c3) c4)
            have X5 : Hid (OutP w w3 w3 r g W sh u8 w2.heap.size cc s k 233) := .inl ⟨by have := HW.out; omega, X0.out, .inr ⟨c1, c2, .inr ⟨c3, c4, rfl⟩⟩⟩
            clear X0 NW KX HBD HRM G5 c3 c4
            go_wp2_with fail
            refine CR.out.mono ?_
            rintro e w4 ⟨rfl, rfl⟩
            go_wp2
            go_meet
            exact ⟨_, rfl, X5⟩
          · intro c1 c2 c3 c4
            have CR := hd (reply_good O r 1 [] [] _ cc s w3 HBD.out HS63.out (say_ok c1 c2 c3) c4 HRM.out)
            clear X0 HBD G5
            have C34 := hd (And.intro c3 c4)
            clear c3 c4
            go_wp2_with fail
            refine CR.out.mono ?_
            rintro e w4 ⟨rfl, hN⟩
            have kx := KX.out w4 hN
            obtain ⟨v', w5, hr, hX⟩ := NW.out w4 hN HRM.out
            have X5 : Hid (OutP w w3 w4 r g W sh u8 w2.heap.size cc s k 0) := (.inr ⟨by omega, by omega, C34.out.1, C34.out.2, rfl, kx, v', w5, hr, by have := HW.out; simp; omega, hX⟩)
            clear CR hN hX kx NW KX HRM
            go_wp2
            go_meet
            exact ⟨_, rfl, X5⟩
        case rest =>
          obtain ⟨E, rfl, HO⟩ := hcut
          clear G5 NW KX HBD X0 HRM q0 q1 p0 p1
          obtain ⟨w4, rfl⟩ : ∃ u, u = wc := ⟨wc, rfl⟩
          go_upto_block 2 with fail
          go_cut [8] (fun v wx => ∃ W', Hid (List.length W' ≤ k + 1 ∧ TkX w wx r g W' sh v w2.heap.size cc s))
          case first =>
            have CM := hd (fun W => may_any s W HS63.out)
            rcases HO.out with ⟨hl, hX, ho⟩ | ⟨c1, c2, c3, c4, rfl, kx, v', w5, hr, hl, hX⟩
            · have q0 := cell_row hX.2.1 0
              have q1 := cell_row hX.2.1 1
              simp at q0 q1
              have X5 := hd (And.intro hl hX)
              clear hl hX HO
              rcases ho with ⟨c1, rfl⟩ | ⟨c1, c2, ⟨c3, rfl⟩ | ⟨c3, c4, rfl⟩⟩
              · rcases c1 with c1 | c1
                · go_wp2
                  go_meet
                  exact ⟨_, X5⟩
                · have c2 : ¬ cc < 1 := by omega
                  go_wp2
                  go_meet
                  exact ⟨_, X5⟩
              · rw [c3] at CM
                clear c3
                go_wp2_with (go_at_call 20; refine (CM.out _).mono ?_; rintro e w' ⟨rfl, rfl⟩)
                go_meet
                exact ⟨_, X5⟩
              · rw [c3] at CM
                clear c3
                subst c4
                go_wp2_with (go_at_call 20; refine (CM.out _).mono ?_; rintro e w' ⟨rfl, rfl⟩)
                go_meet
                exact ⟨_, X5⟩
            · have q0 := cell_row kx 0
              have q1 := cell_row kx 1
              simp at q0 q1
              have X5 := hd (And.intro hl hX)
              rw [c3] at CM
              clear c3 hl hX HO kx
              subst c4
              go_wp2_with (first | (go_at_call 20; refine (CM.out _).mono ?_; rintro e w' ⟨rfl, rfl⟩) | (at_builtin; refine wpList_append_k _ rfl _ _ 35 35 rfl _ _ rfl rfl (hr _) ?_))
              go_meet
              exact ⟨_, X5⟩
          case rest =>
            obtain ⟨W', X5⟩ := hcut
            clear HO
            obtain ⟨w5, rfl⟩ : ∃ u, u = wc := ⟨wc, rfl⟩
            have y0 := cell_row X5.out.2.2.1 0
            have y1 := cell_row X5.out.2.2.1 1
            simp at y0 y1
            obtain ⟨O5, hBD5, -, -⟩ := X5.out.2.bd
            have CN := hd (reply_none O5 r 1 _ 2 cc s _ hBD5 (by omega) (by intro n hn; simp at hn; subst hn; show ((1 : Nat) : Int) ≠ 2; decide))
            have CL := hd (look_good O5 r 1 [] [] _ _ hBD5 (some ⟨g, 0, none⟩) 1 1 [el1] X5.out.2.tk.doc (by intro x hx; rw [List.mem_singleton.1 hx]; exact wf_el1) (by have := X5.out.1; have := HN.out; unfold roomy; simp only at *; omega))
            clear hBD5
            go_wp2_with fail
            refine CN.out.mono ?_
            rintro e w6 ⟨rfl, rfl⟩
            clear CN
            go_wp2_with fail
            refine CL.out.mono ?_
            rintro e w7 ⟨ul, βl, rfl, hSl, -, b7⟩
            have T7 := hd (And.intro X5.out.1 (X5.out.2.tk.below b7))
            clear X5 CL b7 y0 y1
            obtain ⟨βw, hWn⟩ := T7.out.2.want
            obtain ⟨aw, cw, hvw, -, -⟩ := hWn.form
            obtain ⟨al, cl', hvl, -, -⟩ := hSl.form
            subst hvw
            subst hvl
            have CE := hd (fun U (hU : Below w7.heap.size w7 U) => eqReplies_true _ _ βl βw W' U (hSl.fr (S := fun _ => False) (Fr.of_below hU) (fun _ _ h => h)) (hWn.fr (S := fun _ => False) (Fr.of_below hU) (fun _ _ h => h)))
            have hss : (sh != sh) = false := by simp
            have T8 := hd (fun o mm => T7.out.2.below (below_drewN ((Below.refl w7.heap.size w7).alloc (Nat.le_refl _) o) mm))
            have L8 := hd T7.out.1
            clear hSl hWn T7
            simp only [ntA] at CE ⊢
            generalize ((reachP [el1] nt1.el).1 : Int) = f1
            generalize ((reachP [el1] nt1.el).2 : Int) = f2
            generalize hml : List.length W' = ml at *
            have HML := hd hml
            clear hml
            go_upto_region 30 with fail
            have CE8 := hd (CE.out _ ((Below.refl w7.heap.size w7).alloc (Nat.le_refl _) (.cells #[.int .i64 (nt1.id : Int), .int .i64 nt1.cl, .string nt1.wo, .int .i64 f1, .int .i64 f2, .bool (f1 == f2), .bool sh, .slice al ml cl'] 37)))
            have T9 := hd (T8.out (.cells #[.int .i64 (nt1.id : Int), .int .i64 nt1.cl, .string nt1.wo, .int .i64 f1, .int .i64 f2, .bool (f1 == f2), .bool sh, .slice al ml cl'] 37))
            have hb8 := heap_alloc_new w7 (.cells #[.int .i64 (nt1.id : Int), .int .i64 nt1.cl, .string nt1.wo, .int .i64 f1, .int .i64 f2, .bool (f1 == f2), .bool sh, .slice al ml cl'] 37)
            clear CE T8
            generalize w7.alloc (.cells #[.int .i64 (nt1.id : Int), .int .i64 nt1.cl, .string nt1.wo, .int .i64 f1, .int .i64 f2, .bool (f1 == f2), .bool sh, .slice al ml cl'] 37) = w8 at *
            have y6 := cell_row hb8 6
            have y7 := cell_row hb8 7
            simp at y6 y7
            clear hb8
            go_wp2_with fail
            refine CE8.out.mono ?_
            rintro e w9 ⟨rfl, mm, rfl⟩
            have Z : Hid (List.length W' ≤ k + 1 ∧ TkI w (w8.drewN mm) r g W' (shB t (k + 1)) (.slice aw ml cw)) := ⟨by rw [HML.out]; exact L8.out, by rw [HSH.out]; exact T9.out mm⟩
            have ESH : Hid (Value.bool sh = Value.bool (shB t (k + 1))) := by unfold Hid; rw [HSH.out]
            clear CE8 T9 L8 y6 y7 HML HSH
            generalize w8.drewN mm = w9 at *
            go_wp2
            exact ⟨⟨k + 1, hlt, rfl, ESH.out, W', Z⟩, by simp [intOf]; omega⟩
    · have Z := hd HI.out.2.low
      clear HI
      go_wp2
      go_ret
      exact ⟨rfl, Z.out⟩

end Go.Proofs.Ytkkklfnooeofcaa
