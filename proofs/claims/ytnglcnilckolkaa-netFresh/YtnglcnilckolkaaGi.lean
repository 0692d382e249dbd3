/-
  NetFresh: grownGrams over lists that are told apart.
-/
import Derived.Test.YtnglcnilckolkaaRy
namespace Go.Proofs.Ytnglcnilckolkaa
open Go.RowKit
set_option linter.unusedVariables false

theorem tl_grams {w0 u : World} {x y : Nat} {Gx Gy : List DG} {Bx By : Nat} {Es : List Ent} {Ks : Nat → Prop} (h : TL w0 u x y Gx Bx Gy By Es Ks) (K gL cap : Nat) (hK : Es.length = K) (hL : LD u gL K (fun j => (Es.getD j zEn).v)) (hK90 : K ≤ 90) (hcap : K ≤ cap) (hcm : cap ≤ 9223372036854775807) (hn : ∀ e ∈ Es, e.L.length ≤ 1000) (hF : (Es.flatMap Ent.L).length ≤ 90) (hF0 : 0 < (Es.flatMap Ent.L).length) (hM : ∀ e ∈ Es, ∀ z ∈ e.L, z.d.b.length ≤ 1000) :
    Calls Try.prog 38 #[.slice (some ⟨gL, 0, none⟩) K cap] u fun e u' => e = .returned (.bool true) ∧ TL w0 u' x y Gx Bx Gy By [] Ks ∧ Fr (fun k => ∃ e ∈ Es, e.own k) u u' := by
  subst hK
  obtain ⟨r1, r2, r3⟩ := readyG (fun e he => (h.fg e he).1) h.pw
  have hgL : gL < u.heap.size := by
    obtain ⟨cur, hh, -⟩ := hL
    exact block_lt hh
  refine (grams_any gL Es.length cap (eB Es) (eN Es) (eC Es) (eL Es) u r1 (fun i hi => rfl) hL hK90 (fun i hi => ?_) hgL hcap hcm (by rw [fl_all]; exact hF) (by rw [fl_all]; exact hF0) r2 r3 (fun z hz => ?_)).mono ?_
  · rw [eN, getE_of hi]
    exact hn _ (List.getElem_mem hi)
  · rw [fl_all, List.mem_flatMap] at hz
    obtain ⟨e, he, hz⟩ := hz
    exact hM e he z hz
  · rintro e u' ⟨rfl, hFr⟩
    have hO : Fr (fun k => ∃ e ∈ Es, e.own k) u u' := hFr.mono (fun k _ hk => by
      rcases hk with ⟨j, hj, hk⟩ | ⟨z, hz, hk⟩
      · rw [eB, getE_of hj] at hk
        exact ⟨_, List.getElem_mem hj, .inl hk⟩
      · rw [fl_all, List.mem_flatMap] at hz
        obtain ⟨e, he, hz⟩ := hz
        exact ⟨e, he, .inr ⟨z, hz, hk⟩⟩)
    refine ⟨rfl, ⟨(h.tw.own (hO.mono (fun k _ ⟨e, he, hk⟩ => ⟨.inr (.inl ⟨e, he, hk⟩), (h.fg e he).2 k hk⟩))).sub ?_, fun e he => (by cases he), List.Pairwise.nil, fun k hk => ⟨(h.ks k hk).1, fun e he => (by cases he)⟩⟩, hO⟩
    rintro k (hk | ⟨e, he, -⟩ | hk)
    · exact .inl (.inl hk)
    · cases he
    · exact .inl (.inr (.inr hk))

theorem TL.start {w0 w : World} {x y : Nat} {Gx Gy : List DG} {Bx By : Nat} (h : TW w0 w x y Gx Bx Gy By (fun k => k < w0.heap.size)) : TL w0 w x y Gx Bx Gy By [] (fun _ => False) :=
  ⟨h.sub (fun k hk => by rcases hk with hk | ⟨e, he, -⟩ | hk; exact hk; cases he; exact hk.elim), fun e he => (by cases he), List.Pairwise.nil, fun k hk => hk.elim⟩

/-- A list that is a row of the call's own, as cells. -/
theorem own_ld {u : World} {base n : Nat} {v : Value} {vs : List Value} (h : u.ownsRow base 43 1 v n vs) (hn : 0 < n) : ∃ gL cap, v = .slice (some ⟨gL, 0, none⟩) n cap ∧ base ≤ gL ∧ n ≤ cap ∧ cap ≤ 9223372036854775807 ∧ LD u gL n (fun j => vs.getD j (.slice none 0 0)) := by
  have hl := h.1
  rcases h.2 with ⟨rfl, rfl⟩ | ⟨g, cap, cur, rfl, hbg, hh, hnc, hcm, hcs, htk⟩
  · simp at hl
    omega
  · refine ⟨g, cap, rfl, hbg, hnc, hcm, cur, hh, fun i hi => ?_⟩
    rw [Nat.mul_one] at hl htk
    have e : cur[i]? = (cur.toList.take n)[i]? := by rw [List.getElem?_take, if_pos hi]; simp
    rw [e, htk]
    show _ = some (vs.getD i _)
    rw [List.getD_eq_getElem?_getD, List.getElem?_eq_getElem (by omega)]
    rfl

theorem own_fr {w w' : World} {S : Nat → Prop} {base gl n c : Nat} {vs : List Value} (h : w.ownsRow base 43 1 (.slice (some ⟨gl, 0, none⟩) n c) n vs) (hF : Fr S w w') (hS : ¬ S gl) : w'.ownsRow base 43 1 (.slice (some ⟨gl, 0, none⟩) n c) n vs := by
  refine ⟨h.1, ?_⟩
  rcases h.2 with ⟨h0, -⟩ | ⟨g, cap, cur, e, hbg, hh, r⟩
  · cases h0
  · refine .inr ⟨g, cap, cur, e, hbg, hF.keeps hh ?_, r⟩
    have e1 : gl = g := by
      injection e with e1 e2 e3
      injection e1 with e1
      injection e1
    rw [← e1]
    exact hS

theorem FG.isG2 {w : World} {e : Ent} {A : Option Addr} {m C : Nat} (h : FG w e) (hv : e.v = .slice A m C) : IsG w A m C e.L := by
  have h1 := h.isG
  unfold Ent.v at hv
  injection hv with e1 e2 e3
  rw [e1, e2, e3] at h1
  exact h1

end Go.Proofs.Ytnglcnilckolkaa
