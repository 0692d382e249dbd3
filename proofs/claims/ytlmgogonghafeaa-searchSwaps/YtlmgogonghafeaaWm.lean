/-
  A map from words to how often they stand; its laws; the keys, sorted.
-/
import Derived.Test.YtlmgogonghafeaaPw
import Derived.Test.YtlmgogonghafeaaSz
import Derived.Test.YtlmgogonghafeaaCc
import Derived.Maps.OwnSet
import Derived.Maps.RangeWalk
import Derived.Maps.Own
import Derived.DeepKeys4
namespace Go.Proofs.Ytlmgogonghafeaa
open Go.RowKit Go.Lib Go.Maps Go.ChangeMaps Go.MapKept Go.WideMaps Go.Sort Go.Shelf
set_option linter.unusedVariables false

theorem sortsS (m : Nat) : AnyZ.SortsIn Try.prog sortedS_ren Fence.wide m :=
  ⟨fun blk off cap ss W hH hblk hsz => callsIn_wide.2 (AnyM.slices_Sort_string sortS blk off cap ss W hH hblk hsz),
   fun p cap W => callsIn_wide.2 (AnyM.slices_Sort_string_none sortS p cap W)⟩
theorem keys_any (mb : Option Nat) (W : World) : Calls Try.prog 45 #[.map mb] W fun e w' => e = .returned (.func (.func 59) #[] #[.pointer (some ⟨W.heap.size, 0, none⟩)]) ∧ w' = W.alloc (.cells #[.map mb] 83) :=
  (callsIn_wide (n := 5)).1 (AnyZ.keys_in keysS Fence.wide 5 trivial rfl mb W)
set_option maxHeartbeats 1000000 in
theorem sorted_keys {H : Type} (b nn : Nat) (D0 : DataW H) (R : Value → Option (DataW H × List MemPlace)) (w : World) (hown : w.ownsMap Try.prog 9 R b nn D0) (hmax : Maps.size D0 ≤ maxLen) (hbytes : Maps.size D0 * 16 ≤ 140737488355328) :
    Calls Try.prog 44 #[.func (.func 59) #[] #[.pointer (some ⟨w.heap.size, 0, none⟩)]] (w.alloc (.cells #[.map (some b)] 83)) fun e w' => ∃ (v : Value) (ss : List (List UInt8)), e = .returned v ∧ ss.Perm (strKeys D0) ∧
      w'.ownsRow (w.alloc (.cells #[.map (some b)] 83)).heap.size 9 1 v ss.length ((ss.mergeSort (fun x y => decide (x ≤ y))).map encStr) ∧ (v = .slice none 0 0 ↔ ss = []) ∧ Below (w.alloc (.cells #[.map (some b)] 83)).heap.size (w.alloc (.cells #[.map (some b)] 83)) w' := by
  refine (callsIn_wide (n := 5)).1 ?_
  have hbl := hown.lt
  have hseq : SeqGives Fence.wide 2 Try.prog 59 #[.pointer (some ⟨w.heap.size, 0, none⟩)] encStr (fun ss => ss.Perm (strKeys D0)) (Maps.size D0) (w.alloc (.cells #[.map (some b)] 83)) :=
    AnyZ.keys_gives (ρ := keysS_ren) { keysS with } Fence.wide _ trivial rfl (by omega) w.heap.size b nn D0 _ (by simp) (by simp) (by
      obtain ⟨es, clock, hb, Ft, hs, hD⟩ := hown
      exact ⟨es, clock, (Below.heap_alloc _ _ b hbl).trans hb, Ft, hs, hD⟩)
  exact AnyZ.sorted_in sortedS Fence.wide 5 trivial trivial trivial trivial rfl (by omega) (sortsS _) (enters_of Try.func58 (by kernel_rfl) rfl) 59 #[.pointer (some ⟨w.heap.size, 0, none⟩)] trivial (enters_of Try.func59 (by kernel_rfl) rfl) _ _ hmax hbytes _ hseq

/-- How an element reads: as itself. -/
def RV (v : Value) : Option (DataW Value × List MemPlace) := some (.held v, [])
theorem lawS : Keyed Try.prog 9 := string_keyed Try.underlying9
/-- Block b is a map that holds how often each word stands among ws. -/
def MW (w : World) (b : Nat) (ws : List By) : Prop :=
  ∃ (D : DataW Value) (n : Nat), w.ownsMap Try.prog 9 RV b n D ∧ n ≤ ws.length ∧ (∀ k : By, k ∈ ws → ∀ z, D.atKey (.string k) z = .held (.int .i64 ((ws.count k : Nat) : Int))) ∧ (∀ k : By, k ∉ ws → Maps.has D (.string k) = false)
section
variable {w w' : World} {b : Nat} {ws : List By}
theorem MW.lt (h : MW w b ws) : b < w.heap.size := by
  obtain ⟨D, n, h, -⟩ := h
  exact h.lt
theorem MW.fr {S : Nat → Prop} (h : MW w b ws) (hF : Fr S w w') (hS : ¬ S b) : MW w' b ws := by
  obtain ⟨D, n, ⟨es, clock, hb, r⟩, q⟩ := h
  exact ⟨D, n, ⟨es, clock, hF.keeps hb hS, r⟩, q⟩
theorem MW.below (h : MW w b ws) (hb : Below w.heap.size w w') : MW w' b ws := h.fr (S := fun _ => False) (Fr.of_below hb) (fun h => h)
theorem MW.made (w : World) : MW (w.alloc (.map #[] 0)) w.heap.size [] :=
  ⟨_, 0, World.ownsMap_made w Try.prog 9 RV, Nat.le_refl _, by simp, fun k _ => rfl⟩
theorem zeroI (w : World) : (zeroValue 3).run Try.prog w = .ok (.int .i64 0) w := by
  obtain ⟨i0, hi, hz0, hz1, hz2⟩ := info_parts Try.infoI
  simp [zeroValue, typeInfo, hi, hz0]
theorem MW.look (h : MW w b ws) (s : ByteArray) (hs : s.size ≤ maxLen) : (Instr.lookup 83 (.map (some b)) (.string s) false).run Try.prog w = .ok (.int .i64 ((ws.count s.data.toList : Nat) : Int)) w := by
  obtain ⟨D, n, hown, hn, ha, hf⟩ := h
  by_cases hm : s.data.toList ∈ ws
  · obtain ⟨v, ps, hrun, hv⟩ := hown.lookup lawS Try.underlying83 (zeroI w) (zd := .held (.int .i64 0)) (zp := []) rfl (keyOf_string_mk Try.underlying9 hs)
    rw [ha _ hm] at hv
    unfold RV at hv
    have e : v = .int .i64 ((ws.count s.data.toList : Nat) : Int) := by
      have := congrArg (Option.map Prod.fst) hv
      simpa using this
    rw [hrun, e]
  · have hn2 := hf _ hm
    obtain ⟨es, clock, hb, F, _, rfl⟩ := hown
    rw [List.count_eq_zero_of_not_mem hm]
    rcases Maps.fit_look false lawS Try.underlying83 (zeroI w) hb F (keyOf_string_mk Try.underlying9 hs) with ⟨hrun, _, hat⟩ | ⟨e0, y, _, _, hrun, hRv, hat, _⟩
    · exact hrun
    · rw [Maps.has_true_of_atKey hat] at hn2
      cases hn2
theorem lit_nes {a b : By} (h : a ≠ b) : (Lit.string a) ≠ .string b := by
  intro e
  injection e with e1
  exact h e1
theorem MW.add (h : MW w b ws) (s : ByteArray) (hs : s.size ≤ maxLen) (hL : ws.length ≤ 1000000000000) :
    ∃ w', (Instr.mapUpdate 83 (.map (some b)) (.string s) (.int .i64 ((ws.count s.data.toList + 1 : Nat) : Int))).run Try.prog w = .ok () w' ∧ MW w' b (ws ++ [s.data.toList]) ∧ Fr (· = b) w w' := by
  obtain ⟨D, n, hown, hn, ha, hf⟩ := h
  have hkey := keyOf_string_mk (P := Try.prog) Try.underlying9 hs
  obtain ⟨w', hrun, h1, h2⟩ := hown.update lawS Try.underlying83 (by unfold maxLen; omega) hkey (d := .held (.int .i64 ((ws.count s.data.toList + 1 : Nat) : Int))) (ps := []) (val := .int .i64 ((ws.count s.data.toList + 1 : Nat) : Int)) rfl
  refine ⟨w', hrun, ⟨D.put (.string s.data.toList) (.held (.int .i64 ((ws.count s.data.toList + 1 : Nat) : Int))), n + 1, h1, by simp; omega, fun k hk z => ?_, fun k hk => ?_⟩, ⟨h2.os, h2.tape, h2.output, h2.size, fun k hk hn => h2.block k hk (fun e => hn (by injection e))⟩⟩
  · by_cases e : k = s.data.toList
    · subst e
      rw [atKey_put_same hown.isMap (lawS.key hkey) _ _, List.count_append]
      simp
    · rw [atKey_put_other (lit_nes e)]
      have hk' : k ∈ ws := by
        rw [List.mem_append, List.mem_singleton] at hk
        exact hk.resolve_right e
      rw [ha k hk', List.count_append, List.count_cons, List.count_nil]
      have : ¬ (s.data.toList == k) = true := by simpa using fun h => e h.symm
      simp [this]
  · rw [List.mem_append, List.mem_singleton] at hk
    rw [has_put_other (lit_nes (fun e => hk (.inr e)))]
    exact hf k (fun h => hk (.inl h))
theorem MW.keys (h : MW w b ws) : ∃ (D : DataW Value) (n : Nat), w.ownsMap Try.prog 9 RV b n D ∧ Maps.size D ≤ ws.length ∧ ∀ ss : List By, ss.Perm (strKeys D) → ss.Nodup ∧ (∀ k, k ∈ ss ↔ k ∈ ws) ∧ ss.length ≤ ws.length := by
  obtain ⟨D, n, hown, hn, ha, hf⟩ := h
  refine ⟨D, n, hown, Nat.le_trans hown.size_le hn, ?_⟩
  have hsl := Nat.le_trans hown.size_le hn
  obtain ⟨es, rfl, hp, -⟩ := hown.entries lawS
  obtain ⟨es', he, hko⟩ := hown.keysOf
  obtain rfl : es = es' := by simpa using he
  have hk : ∀ p ∈ es, ∃ x, p.1 = .string x := fun p hp => by obtain ⟨v, hv⟩ := hko p hp; obtain ⟨x, _, hx, _⟩ := Maps.keyOf_str Try.underlying9 hv; exact ⟨x, hx⟩
  have hnd : (strKeys (DataW.map es : DataW Value)).Nodup := by
    show (es.map fun p => strOf p.1).Nodup
    refine List.pairwise_map.2 (hp.imp_of_mem fun {p q} hp' hq' hne e => hne ?_)
    obtain ⟨a, ha⟩ := hk p hp'
    obtain ⟨b, hb⟩ := hk q hq'
    rw [ha, hb] at e ⊢
    exact congrArg _ e
  have hmem : ∀ x, x ∈ strKeys (DataW.map es : DataW Value) ↔ has (DataW.map es) (.string x) = true := by
    intro x
    rw [has_eq, List.any_eq_true]
    show x ∈ (es.map fun p => strOf p.1) ↔ _
    rw [List.mem_map]
    constructor
    · rintro ⟨p, hp', rfl⟩
      obtain ⟨a, ha⟩ := hk p hp'
      exact ⟨p, hp', by rw [ha]; simp [Lit.sameKey, strOf]⟩
    · rintro ⟨p, hp', hs⟩
      obtain ⟨a, ha⟩ := hk p hp'
      rw [ha] at hs
      exact ⟨p, hp', by rw [ha]; simpa [Lit.sameKey, strOf] using hs⟩
  intro ss hss
  refine ⟨(hss.nodup_iff).2 hnd, fun k => ?_, by
    rw [hss.length_eq]
    show (es.map fun p => strOf p.1).length ≤ _
    rw [List.length_map]
    exact hsl⟩
  rw [hss.mem_iff, hmem]
  constructor
  · intro h
    refine Classical.byContradiction fun hn => ?_
    rw [hf k hn] at h
    cases h
  · intro h
    exact has_true_of_atKey (ha k h)

/-- The words, each once, in the order of their bytes. -/
structure Wds (ws ks : List By) : Prop where
  sort : ks.Pairwise (· < ·)
  mem : ∀ k, k ∈ ks ↔ k ∈ ws
theorem Wds.of (ss : List By) (hn : ss.Nodup) (hm : ∀ k, k ∈ ss ↔ k ∈ ws) : Wds ws (ss.mergeSort (fun x y => decide (x ≤ y))) := by
  have tr : ∀ a b c : By, decide (a ≤ b) = true → decide (b ≤ c) = true → decide (a ≤ c) = true := fun a b c h1 h2 => by
    rw [decide_eq_true_eq] at *
    exact List.le_trans h1 h2
  have tot : ∀ a b : By, (decide (a ≤ b) || decide (b ≤ a)) = true := fun a b => by simp only [Bool.or_eq_true, decide_eq_true_eq]; exact List.le_total a b
  have hp := List.mergeSort_perm ss (fun x y => decide (x ≤ y))
  refine ⟨?_, fun k => by rw [hp.mem_iff]; exact hm k⟩
  have h1 := List.pairwise_mergeSort tr tot ss
  have h2 : (ss.mergeSort (fun x y => decide (x ≤ y))).Nodup := (hp.nodup_iff).2 hn
  refine (h1.and h2).imp fun {a b} h => ?_
  obtain ⟨h3, h4⟩ := h
  rw [decide_eq_true_eq] at h3
  exact Classical.byContradiction fun hlt => h4 (List.le_antisymm h3 (List.not_lt.1 hlt))
end
end Go.Proofs.Ytlmgogonghafeaa
