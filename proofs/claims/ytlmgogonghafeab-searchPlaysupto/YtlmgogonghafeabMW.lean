/-
  Texts put together: Wm Wo.
-/
import Derived.Test.YtlmgogonghafeabPw
import Derived.Test.YtlmgogonghafeabSz
import Derived.Test.YtlmgogonghafeabCc
import Derived.Maps.OwnSet
import Derived.Maps.RangeWalk
import Derived.Maps.Own
import Derived.DeepKeys4
/-! Wm -/
namespace Go.Proofs.Ytlmgogonghafeab
open Go.RowKit Go.Lib Go.Maps Go.ChangeMaps Go.MapKept Go.WideMaps Go.Sort Go.Shelf
set_option linter.unusedVariables false

theorem sortsS (m : Nat) : AnyZ.SortsIn Try.prog sortedS_ren Fence.wide m :=
  ⟨fun blk off cap ss W hH hblk hsz => callsIn_wide.2 (AnyM.slices_Sort_string sortS blk off cap ss W hH hblk hsz),
   fun p cap W => callsIn_wide.2 (AnyM.slices_Sort_string_none sortS p cap W)⟩
theorem keys_any (mb : Option Nat) (W : World) : Calls Try.prog 33 #[.map mb] W fun e w' => e = .returned (.func (.func 56) #[] #[.pointer (some ⟨W.heap.size, 0, none⟩)]) ∧ w' = W.alloc (.cells #[.map mb] 69) :=
  (callsIn_wide (n := 5)).1 (AnyZ.keys_in keysS Fence.wide 5 trivial rfl mb W)
set_option maxHeartbeats 1000000 in
theorem sorted_keys {H : Type} (b nn : Nat) (D0 : DataW H) (R : Value → Option (DataW H × List MemPlace)) (w : World) (hown : w.ownsMap Try.prog 9 R b nn D0) (hmax : Maps.size D0 ≤ maxLen) (hbytes : Maps.size D0 * 16 ≤ 140737488355328) :
    Calls Try.prog 32 #[.func (.func 56) #[] #[.pointer (some ⟨w.heap.size, 0, none⟩)]] (w.alloc (.cells #[.map (some b)] 69)) fun e w' => ∃ (v : Value) (ss : List (List UInt8)), e = .returned v ∧ ss.Perm (strKeys D0) ∧
      w'.ownsRow (w.alloc (.cells #[.map (some b)] 69)).heap.size 9 1 v ss.length ((ss.mergeSort (fun x y => decide (x ≤ y))).map encStr) ∧ (v = .slice none 0 0 ↔ ss = []) ∧ Below (w.alloc (.cells #[.map (some b)] 69)).heap.size (w.alloc (.cells #[.map (some b)] 69)) w' := by
  refine (callsIn_wide (n := 5)).1 ?_
  have hbl := hown.lt
  have hseq : SeqGives Fence.wide 2 Try.prog 56 #[.pointer (some ⟨w.heap.size, 0, none⟩)] encStr (fun ss => ss.Perm (strKeys D0)) (Maps.size D0) (w.alloc (.cells #[.map (some b)] 69)) :=
    AnyZ.keys_gives (ρ := keysS_ren) { keysS with } Fence.wide _ trivial rfl (by omega) w.heap.size b nn D0 _ (by simp) (by simp) (by
      obtain ⟨es, clock, hb, Ft, hs, hD⟩ := hown
      exact ⟨es, clock, (Below.heap_alloc _ _ b hbl).trans hb, Ft, hs, hD⟩)
  exact AnyZ.sorted_in sortedS Fence.wide 5 trivial trivial trivial trivial rfl (by omega) (sortsS _) (enters_of Try.func55 (by kernel_rfl) rfl) 56 #[.pointer (some ⟨w.heap.size, 0, none⟩)] trivial (enters_of Try.func56 (by kernel_rfl) rfl) _ _ hmax hbytes _ hseq

/-- How an element reads: as itself. -/
def RV (v : Value) : Option (DataW Value × List MemPlace) := some (.held v, [])
theorem lawS : Keyed Try.prog 9 := string_keyed Try.underlying9
/-- Block b is a map that holds how often each word stands among ws. -/
def MW (w : World) (b : Nat) (ws : List By) : Prop :=
  ∃ (D : DataW Value) (n : Nat), w.ownsMap Try.prog 9 RV b n D ∧ n ≤ ws.length ∧ (∀ k : By, k ∈ ws → ∀ z, D.atKey (.string k) z = .held (.int .i64 ((ws.count k : Nat) : Int))) ∧ (∀ k : By, k ∉ ws → Maps.has D (.string k) = false)
section
variable {w w' : World} {b : Nat} {ws : List By}
theorem MW.lt (h : MW w b ws) : b < w.heap.size := by
  obtain ⟨D, n, h, -⟩ := h
  exact h.lt
theorem MW.fr {S : Nat → Prop} (h : MW w b ws) (hF : Fr S w w') (hS : ¬ S b) : MW w' b ws := by
  obtain ⟨D, n, ⟨es, clock, hb, r⟩, q⟩ := h
  exact ⟨D, n, ⟨es, clock, hF.keeps hb hS, r⟩, q⟩
theorem MW.below (h : MW w b ws) (hb : Below w.heap.size w w') : MW w' b ws := h.fr (S := fun _ => False) (Fr.of_below hb) (fun h => h)
theorem MW.made (w : World) : MW (w.alloc (.map #[] 0)) w.heap.size [] :=
  ⟨_, 0, World.ownsMap_made w Try.prog 9 RV, Nat.le_refl _, by simp, fun k _ => rfl⟩
theorem zeroI (w : World) : (zeroValue 3).run Try.prog w = .ok (.int .i64 0) w := by
  obtain ⟨i0, hi, hz0, hz1, hz2⟩ := info_parts Try.infoI
  simp [zeroValue, typeInfo, hi, hz0]
theorem MW.look (h : MW w b ws) (s : ByteArray) (hs : s.size ≤ maxLen) : (Instr.lookup 69 (.map (some b)) (.string s) false).run Try.prog w = .ok (.int .i64 ((ws.count s.data.toList : Nat) : Int)) w := by
  obtain ⟨D, n, hown, hn, ha, hf⟩ := h
  by_cases hm : s.data.toList ∈ ws
  · obtain ⟨v, ps, hrun, hv⟩ := hown.lookup lawS Try.underlying69 (zeroI w) (zd := .held (.int .i64 0)) (zp := []) rfl (keyOf_string_mk Try.underlying9 hs)
    rw [ha _ hm] at hv
    unfold RV at hv
    have e : v = .int .i64 ((ws.count s.data.toList : Nat) : Int) := by
      have := congrArg (Option.map Prod.fst) hv
      simpa using this
    rw [hrun, e]
  · have hn2 := hf _ hm
    obtain ⟨es, clock, hb, F, _, rfl⟩ := hown
    rw [List.count_eq_zero_of_not_mem hm]
    rcases Maps.fit_look false lawS Try.underlying69 (zeroI w) hb F (keyOf_string_mk Try.underlying9 hs) with ⟨hrun, _, hat⟩ | ⟨e0, y, _, _, hrun, hRv, hat, _⟩
    · exact hrun
    · rw [Maps.has_true_of_atKey hat] at hn2
      cases hn2
theorem lit_nes {a b : By} (h : a ≠ b) : (Lit.string a) ≠ .string b := by
  intro e
  injection e with e1
  exact h e1
theorem MW.add (h : MW w b ws) (s : ByteArray) (hs : s.size ≤ maxLen) (hL : ws.length ≤ 1000000000000) :
    ∃ w', (Instr.mapUpdate 69 (.map (some b)) (.string s) (.int .i64 ((ws.count s.data.toList + 1 : Nat) : Int))).run Try.prog w = .ok () w' ∧ MW w' b (ws ++ [s.data.toList]) ∧ Fr (· = b) w w' := by
  obtain ⟨D, n, hown, hn, ha, hf⟩ := h
  have hkey := keyOf_string_mk (P := Try.prog) Try.underlying9 hs
  obtain ⟨w', hrun, h1, h2⟩ := hown.update lawS Try.underlying69 (by unfold maxLen; omega) hkey (d := .held (.int .i64 ((ws.count s.data.toList + 1 : Nat) : Int))) (ps := []) (val := .int .i64 ((ws.count s.data.toList + 1 : Nat) : Int)) rfl
  refine ⟨w', hrun, ⟨D.put (.string s.data.toList) (.held (.int .i64 ((ws.count s.data.toList + 1 : Nat) : Int))), n + 1, h1, by simp; omega, fun k hk z => ?_, fun k hk => ?_⟩, ⟨h2.os, h2.tape, h2.output, h2.size, fun k hk hn => h2.block k hk (fun e => hn (by injection e))⟩⟩
  · by_cases e : k = s.data.toList
    · subst e
      rw [atKey_put_same hown.isMap (lawS.key hkey) _ _, List.count_append]
      simp
    · rw [atKey_put_other (lit_nes e)]
      have hk' : k ∈ ws := by
        rw [List.mem_append, List.mem_singleton] at hk
        exact hk.resolve_right e
      rw [ha k hk', List.count_append, List.count_cons, List.count_nil]
      have : ¬ (s.data.toList == k) = true := by simpa using fun h => e h.symm
      simp [this]
  · rw [List.mem_append, List.mem_singleton] at hk
    rw [has_put_other (lit_nes (fun e => hk (.inr e)))]
    exact hf k (fun h => hk (.inl h))
theorem MW.keys (h : MW w b ws) : ∃ (D : DataW Value) (n : Nat), w.ownsMap Try.prog 9 RV b n D ∧ Maps.size D ≤ ws.length ∧ ∀ ss : List By, ss.Perm (strKeys D) → ss.Nodup ∧ (∀ k, k ∈ ss ↔ k ∈ ws) ∧ ss.length ≤ ws.length := by
  obtain ⟨D, n, hown, hn, ha, hf⟩ := h
  refine ⟨D, n, hown, Nat.le_trans hown.size_le hn, ?_⟩
  have hsl := Nat.le_trans hown.size_le hn
  obtain ⟨es, rfl, hp, -⟩ := hown.entries lawS
  obtain ⟨es', he, hko⟩ := hown.keysOf
  obtain rfl : es = es' := by simpa using he
  have hk : ∀ p ∈ es, ∃ x, p.1 = .string x := fun p hp => by obtain ⟨v, hv⟩ := hko p hp; obtain ⟨x, _, hx, _⟩ := Maps.keyOf_str Try.underlying9 hv; exact ⟨x, hx⟩
  have hnd : (strKeys (DataW.map es : DataW Value)).Nodup := by
    show (es.map fun p => strOf p.1).Nodup
    refine List.pairwise_map.2 (hp.imp_of_mem fun {p q} hp' hq' hne e => hne ?_)
    obtain ⟨a, ha⟩ := hk p hp'
    obtain ⟨b, hb⟩ := hk q hq'
    rw [ha, hb] at e ⊢
    exact congrArg _ e
  have hmem : ∀ x, x ∈ strKeys (DataW.map es : DataW Value) ↔ has (DataW.map es) (.string x) = true := by
    intro x
    rw [has_eq, List.any_eq_true]
    show x ∈ (es.map fun p => strOf p.1) ↔ _
    rw [List.mem_map]
    constructor
    · rintro ⟨p, hp', rfl⟩
      obtain ⟨a, ha⟩ := hk p hp'
      exact ⟨p, hp', by rw [ha]; simp [Lit.sameKey, strOf]⟩
    · rintro ⟨p, hp', hs⟩
      obtain ⟨a, ha⟩ := hk p hp'
      rw [ha] at hs
      exact ⟨p, hp', by rw [ha]; simpa [Lit.sameKey, strOf] using hs⟩
  intro ss hss
  refine ⟨(hss.nodup_iff).2 hnd, fun k => ?_, by
    rw [hss.length_eq]
    show (es.map fun p => strOf p.1).length ≤ _
    rw [List.length_map]
    exact hsl⟩
  rw [hss.mem_iff, hmem]
  constructor
  · intro h
    refine Classical.byContradiction fun hn => ?_
    rw [hf k hn] at h
    cases h
  · intro h
    exact has_true_of_atKey (ha k h)

/-- The words, each once, in the order of their bytes. -/
structure Wds (ws ks : List By) : Prop where
  sort : ks.Pairwise (· < ·)
  mem : ∀ k, k ∈ ks ↔ k ∈ ws
theorem Wds.of (ss : List By) (hn : ss.Nodup) (hm : ∀ k, k ∈ ss ↔ k ∈ ws) : Wds ws (ss.mergeSort (fun x y => decide (x ≤ y))) := by
  have tr : ∀ a b c : By, decide (a ≤ b) = true → decide (b ≤ c) = true → decide (a ≤ c) = true := fun a b c h1 h2 => by
    rw [decide_eq_true_eq] at *
    exact List.le_trans h1 h2
  have tot : ∀ a b : By, (decide (a ≤ b) || decide (b ≤ a)) = true := fun a b => by simp only [Bool.or_eq_true, decide_eq_true_eq]; exact List.le_total a b
  have hp := List.mergeSort_perm ss (fun x y => decide (x ≤ y))
  refine ⟨?_, fun k => by rw [hp.mem_iff]; exact hm k⟩
  have h1 := List.pairwise_mergeSort tr tot ss
  have h2 : (ss.mergeSort (fun x y => decide (x ≤ y))).Nodup := (hp.nodup_iff).2 hn
  refine (h1.and h2).imp fun {a b} h => ?_
  obtain ⟨h3, h4⟩ := h
  rw [decide_eq_true_eq] at h3
  exact Classical.byContradiction fun hlt => h4 (List.le_antisymm h3 (List.not_lt.1 hlt))
end
end Go.Proofs.Ytlmgogonghafeab

/-! Wo -/
namespace Go.Proofs.Ytlmgogonghafeab
open Go.RowKit Go.Lib Go.Maps Go.ChangeMaps Go.MapKept Go.WideMaps Go.Sort Go.Shelf
set_option linter.unusedVariables false

set_option maxHeartbeats 4000000 in
theorem noLetter_any (r : Nat) (w : World) : Calls Try.prog 31 #[.int .i32 (r : Int)] w fun e w' => e = .returned (.bool (noR r)) ∧ w' = w := by
  have G : ∀ (P : Prop), (noR r = false → 97 ≤ r → r ≤ 122 → P) → (noR r = false → r < 97 → 65 ≤ r → r ≤ 90 → P) → (noR r = true → 122 < r → P) → (noR r = true → r < 97 → 90 < r → P) → (noR r = true → r < 97 → r < 65 → P) → P := by
    intro P h1 h2 h3 h4 h5
    have e : noR r = decide (¬ ((97 ≤ r ∧ r ≤ 122) ∨ (65 ≤ r ∧ r ≤ 90))) := by unfold noR ltN; rw [← decide_not]
    by_cases c1 : 97 ≤ r
    · by_cases c2 : r ≤ 122
      · exact h1 (by rw [e]; simp; omega) c1 c2
      · exact h3 (by rw [e]; simp; omega) (by omega)
    · by_cases c3 : 65 ≤ r
      · by_cases c4 : r ≤ 90
        · exact h2 (by rw [e]; simp; omega) (by omega) c3 c4
        · exact h4 (by rw [e]; simp; omega) (by omega) (by omega)
      · exact h5 (by rw [e]; simp; omega) (by omega) (by omega)
  refine G _ ?_ ?_ ?_ ?_ ?_
  · intro e c1 c2
    rw [e]
    have a1 : ¬ (r : Int) < 97 := by omega
    have a2 : ¬ (122 : Int) < (r : Int) := by omega
    clear G
    go_enter Try.func31, Try.ntmps31
    go_wp2
    go_ret
    exact ⟨rfl, rfl⟩
  · intro e c1 c2 c3
    rw [e]
    have a1 : (r : Int) < 97 := by omega
    have a2 : ¬ (r : Int) < 65 := by omega
    have a3 : ¬ (90 : Int) < (r : Int) := by omega
    clear G
    go_enter Try.func31, Try.ntmps31
    go_wp2
    go_ret
    exact ⟨rfl, rfl⟩
  · intro e c1
    rw [e]
    have a1 : ¬ (r : Int) < 97 := by omega
    have a2 : (122 : Int) < (r : Int) := by omega
    have a3 : ¬ (r : Int) < 65 := by omega
    have a4 : (90 : Int) < (r : Int) := by omega
    clear G
    go_enter Try.func31, Try.ntmps31
    go_wp2
    go_ret
    exact ⟨rfl, rfl⟩
  · intro e c1 c2
    rw [e]
    have a1 : (r : Int) < 97 := by omega
    have a3 : ¬ (r : Int) < 65 := by omega
    have a4 : (90 : Int) < (r : Int) := by omega
    clear G
    go_enter Try.func31, Try.ntmps31
    go_wp2
    go_ret
    exact ⟨rfl, rfl⟩
  · intro e c1 c2
    rw [e]
    have a1 : (r : Int) < 97 := by omega
    have a3 : (r : Int) < 65 := by omega
    clear G
    go_enter Try.func31, Try.ntmps31
    go_wp2
    go_ret
    exact ⟨rfl, rfl⟩

def es (s : ByteArray) : List Value := [.string s]
theorem szS : Sz es 1 := fun x => ⟨rfl, fun v hv => by simp [es] at hv; subst hv; rfl⟩
theorem cl_es (xs : List ByteArray) : cl es xs = xs.map Value.string := by
  induction xs with
  | nil => rfl
  | cons x xs ih => rw [cl_cons, ih]; rfl
theorem sf_of_owns {w : World} {base : Nat} {v : Value} {xs : List ByteArray} (h : w.ownsRow base 9 1 v xs.length (xs.map Value.string)) : ∃ β, SF es 1 w 9 β v xs ∧ ∀ g, β = some g → base ≤ g := by
  rcases h.2 with ⟨rfl, h0⟩ | ⟨g, cap, cur, rfl, hbg, hh, hnc, hcm, hcs, htk⟩
  · exact ⟨none, ⟨rfl, List.eq_nil_of_length_eq_zero h0⟩, fun g h => by cases h⟩
  · refine ⟨some g, ⟨cap, rfl, cur.toList, by simpa using hh, ?_, rfl, hnc, hcm, by simpa using hcs⟩, fun k hk => by injection hk with hk; omega⟩
    rw [cl_es]
    simpa using htk
/-- A list of strings of one's own. -/
def StI (w wr : World) (v : Value) (xs : List ByteArray) : Prop := ∃ β, SF es 1 wr 9 β v xs ∧ (∀ g, β = some g → w.heap.size ≤ g) ∧ Below w.heap.size w wr
theorem StI.below {w wr wx : World} {v : Value} {xs : List ByteArray} (h : StI w wr v xs) (hb : Below wr.heap.size wr wx) : StI w wx v xs := by
  obtain ⟨β, h1, h2, h3⟩ := h
  exact ⟨β, h1.fr (S := fun _ => False) (Fr.of_below hb) (fun _ _ h => h), h2, h3.trans (hb.mono h3.size)⟩
theorem StI.cells {w wr : World} {v : Value} {xs : List ByteArray} (h : StI w wr v xs) : ∃ a c, v = .slice a xs.length c ∧ xs.length ≤ c ∧ c ≤ 9223372036854775807 ∧ (0 < xs.length → ∃ g, a = some ⟨g, 0, none⟩ ∧ w.heap.size ≤ g ∧ g < wr.heap.size ∧ ∀ i (h : i < xs.length), wr.cell? ⟨g, i, none⟩ = some (.string xs[i])) := by
  obtain ⟨β, h1, h2, h3⟩ := h
  obtain ⟨a, c, hv, hlc, hc⟩ := h1.form
  refine ⟨a, c, hv, hlc, hc, fun hn => ?_⟩
  cases β with
  | none =>
    obtain ⟨-, h⟩ := h1
    rw [h] at hn
    simp at hn
  | some g =>
    have hlt := h1.lt g rfl
    obtain ⟨cap, hv2, hR⟩ := h1
    rw [hv] at hv2
    obtain ⟨rfl, -, -⟩ := Value.slice.inj hv2
    refine ⟨g, rfl, h2 g rfl, hlt, fun i hi => ?_⟩
    have := hR.cell szS i 0 hi (by omega)
    rw [Nat.mul_one, Nat.add_zero] at this
    rw [this]
    rfl

theorem fields_any (s : ByteArray) (w : World) (hs : s.size ≤ 4000000000) : Calls Try.prog 30 #[.string s, .func (.func 31) #[] #[]] w fun e w' => ∃ v, e = .returned v ∧ StI w w' v (goFieldsP noR s) := by
  have h := Any.strings_FieldsFunc_runes laysFF 31 #[] (enters_of Try.func31 (by kernel_rfl) rfl) noR s w (by omega) (fun W x hx hb => (noLetter_any x W).mono (fun e W' ⟨h1, h2⟩ => ⟨h1, 0, h2⟩)) (by kernel_rfl) (by kernel_rfl)
  refine h.mono ?_
  rintro e w' ⟨A, rfl, hA, hrow, hb⟩
  obtain ⟨β, h1, h2⟩ := sf_of_owns hrow
  exact ⟨_, rfl, β, h1, h2, hb⟩
end Go.Proofs.Ytlmgogonghafeab
