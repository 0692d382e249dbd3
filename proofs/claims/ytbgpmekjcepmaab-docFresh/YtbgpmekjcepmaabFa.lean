/-
  DocFresh: fill, full, roomy.
-/
import Derived.Test.YtbgpmekjcepmaabTwin
import Derived.Test.YtbgpmekjcepmaabEq
namespace Go.Proofs.Ytbgpmekjcepmaab
open Go.RowKit
set_option linter.unusedVariables false

theorem set_at {α : Type} (A : List α) (x : α) (B : List α) (v : α) (k : Nat) (h : A.length = k) : (A ++ x :: B).set k v = A ++ v :: B := by
  subst h
  rw [List.set_append_right _ _ (Nat.le_refl _), Nat.sub_self]
  rfl

/-- One element more is written over. -/
theorem over_step (ys : List El) (f : Nat → El) (k : Nat) (hk : k < ys.length) : ((List.range k).map f ++ ys.drop k).set k (f k) = (List.range (k + 1)).map f ++ ys.drop (k + 1) := by
  rw [List.drop_eq_getElem_cons hk, set_at _ _ _ _ k (by simp), List.range_succ, List.map_append]
  simp

theorem range_const (m : El) (n : Nat) : (List.range n).map (fun _ => m) = List.replicate n m := by
  induction n with
  | zero => rfl
  | succ n ih => rw [List.range_succ, List.map_append, ih, List.replicate_succ']; rfl

/-- What holds while a row is written over by f. -/
def WRel (w wr : World) (g N cap : Nat) (ys : List El) (f : Nat → El) (k : Nat) : Prop := RowE wr g N cap ((List.range k).map f ++ ys.drop k) ∧ Fr (· = g) w wr

theorem WRel.step {w wr : World} {g N cap : Nat} {ys : List El} {f : Nat → El} {k : Nat} (h : WRel w wr g N cap ys f k) (hy : ys.length = N) (hk : k < N) (a b c : Int) (e : f k = (a, b, c)) :
    WRel w (((wr.setCell ⟨g, k * 3, none⟩ (.int .u8 a)).setCell ⟨g, k * 3 + 1, none⟩ (.int .i64 b)).setCell ⟨g, k * 3 + 2, none⟩ (.int .i64 c)) g N cap ys f (k + 1) := by
  refine ⟨?_, ((h.2.trans (Fr.setCell _ _ _ rfl)).trans (Fr.setCell _ _ _ rfl)).trans (Fr.setCell _ _ _ rfl)⟩
  have := h.1.set3 k a b c hk
  rw [← e, over_step ys f k (by omega)] at this
  exact this

set_option maxRecDepth 100000 in
set_option maxHeartbeats 4000000 in
theorem fill_any (g n N cap : Nat) (mk : Int) (ys : List El) (w : World) (hR : RowE w g N cap ys) (hn : n ≤ N) (h0 : 0 ≤ mk) (h1 : mk ≤ 255) :
    Calls Try.prog 17 #[.slice (some ⟨g, 0, none⟩) n cap, .int .i64 mk] w fun e w' => e = .returned (.tuple #[]) ∧ RowE w' g N cap (List.replicate n (mk, mk, mk) ++ ys.drop n) ∧ Fr (· = g) w w' := by
  have hL := hd hR.isE.1
  have hc := hR.isE.2.1
  have hc2 := hR.isE.2.2.1
  have S0 : Hid (WRel w w g N cap ys (fun _ => (mk, mk, mk)) 0) := ⟨by simpa using hR, Fr.refl _ _⟩
  have hw : IntKind.u8.wrap mk = mk := by rw [IntKind.wrap_u8]; omega
  clear hR
  go_enter Try.func17, Try.ntmps17
  go_wp2
  go_loopw [4] (fun i wr => ∃ k : Nat, k ≤ n ∧ i = .int .i64 k ∧ Hid (WRel w wr g N cap ys (fun _ => (mk, mk, mk)) k)) (fun i _ => n - (intOf i).toNat)
  case atStart => exact ⟨0, Nat.zero_le _, rfl, S0⟩
  case round =>
    obtain ⟨k, hk, rfl, hr⟩ := hrel
    clear S0
    by_cases hlt : k < n
    · obtain ⟨⟨a0, d0⟩, ⟨a1, d1⟩, ⟨a2, d2⟩⟩ := hr.out.1.cells k (by omega)
      have f0 := hr.out.1.frozen (k * 3)
      have f1 := hr.out.1.frozen (k * 3 + 1)
      have f2 := hr.out.1.frozen (k * 3 + 2)
      have i1 : (k : Int) < (n : Int) := by omega
      have ST := hd (hr.out.step hL.out (by omega) mk mk mk rfl)
      clear hr
      go_wp2
      exact ⟨⟨k + 1, by omega, by go_num, ST⟩, by simp [intOf]; omega⟩
    · obtain rfl : k = n := by omega
      have R : Hid (RowE wr g N cap (List.replicate k (mk, mk, mk) ++ ys.drop k) ∧ Fr (· = g) w wr) := by
        have := hr.out.1
        rw [range_const] at this
        exact ⟨this, hr.out.2⟩
      clear hr
      go_wp2
      (try simp only [Exit.inBlock, Exit.then])
      refine bodyPost_end (results_none rfl _ _ _) rfl ?_
      exact ⟨rfl, R.out⟩

set_option maxRecDepth 100000 in
set_option maxHeartbeats 4000000 in
theorem full_any (a : Option Addr) (n c : Nat) (mk : Int) (w : World) (hE : IsE w a n c (List.replicate n (mk, mk, mk))) (h0 : 0 ≤ mk) (h1 : mk ≤ 255) :
    Calls Try.prog 21 #[.slice a n c, .int .i64 mk] w fun e w' => e = .returned (.bool true) ∧ ∃ m, w' = w.drewN m := by
  have HE := hd hE
  have hc : n ≤ 9223372036854775807 := by have := hE.2.1; have := hE.2.2.1; omega
  have hw : IntKind.u8.wrap mk = mk := by rw [IntKind.wrap_u8]; omega
  clear hE
  go_enter Try.func21, Try.ntmps21
  go_wp2
  go_loopw [5] (fun i wr => ∃ k m : Nat, k ≤ n ∧ i = .int .i64 k ∧ wr = w.drewN m) (fun i _ => n - (intOf i).toNat)
  case atStart => exact ⟨0, 0, Nat.zero_le _, rfl, rfl⟩
  case round =>
    obtain ⟨k, m, hk, rfl, rfl⟩ := hrel
    by_cases hlt : k < n
    · obtain ⟨b, off, rfl, hb⟩ := HE.out.addr (by omega)
      obtain ⟨e0, e1, e2⟩ := HE.out.at k hlt (by simpa using hlt)
      rw [List.getElem_replicate] at e0 e1 e2
      have i1 : (k : Int) < (n : Int) := by omega
      go_wp2
      exact ⟨⟨k + 1, _, by omega, by go_num, rfl⟩, by simp [intOf]; omega⟩
    · go_wp2
      go_ret
      exact ⟨rfl, m, rfl⟩

def rmk (i : Nat) : El := (1, -1, (i : Int))

/-- The text in a list with four elements of spare room. -/
def roomyP (xs : List El) : List El := xs ++ (List.range 4).map (fun i => rmk (xs.length + i))

theorem roomyP_len (xs : List El) : (roomyP xs).length = xs.length + 4 := by simp [roomyP]

theorem range_add (n m : Nat) (f : Nat → El) : (List.range (n + m)).map f = (List.range n).map f ++ (List.range m).map (fun i => f (n + i)) := by
  rw [List.range_add, List.map_append, List.map_map]
  rfl

theorem range_getD (xs : List El) (d : El) : (List.range xs.length).map (fun i => xs.getD i d) = xs := by
  apply List.ext_getElem (by simp)
  intro i h1 h2
  simp [List.getD, List.getElem?_eq_getElem h2]

set_option maxRecDepth 100000 in
set_option maxHeartbeats 4000000 in
theorem roomy_any (a : Option Addr) (n cc M : Nat) (xs : List El) (w : World) (hE : IsE w a n cc xs) (hn : n ≤ 300) (hM : M = n + 4) :
    Calls Try.prog 13 #[.slice a n cc] w fun x w' => ∃ g, x = .returned (.slice (some ⟨g, 0, none⟩) M M) ∧ w.heap.size ≤ g ∧ RowE w' g M M (roomyP xs) ∧ Below w.heap.size w w' := by
  obtain ⟨i0, hi0, hz0, hz1, hz2⟩ := info_parts Try.infoE
  have HE := hd hE
  have HL := hd hE.1
  have HM := hd hM
  have hMi : (M : Int) = (n : Int) + 4 := by omega
  have hMb : M ≤ 304 := by omega
  clear hE hM
  go_enter Try.func13, Try.ntmps13
  go_wp2_with (at_make; refine wpList_make_k _ rfl _ _ 22 rfl 46 i0 _ Try.underlying22 hi0 hz0 _ _ _ _ M M rfl rfl (by rw [hMi]) (by rw [hMi]) (Nat.le_refl _) (by rw [hz2]; omega) (by omega) ?_; intro w3 cur hg3 hcur hb3)
  have R3 := row_made (n := M) hg3.out (by have := hcur.out; rw [hz1] at this; exact this) (by omega)
  have S0 : Hid (WRel w3 w3 w.heap.size M M (List.replicate M (0, 0, 0)) rmk 0) := ⟨by simpa using R3, Fr.refl _ _⟩
  have B3 := hd hb3.out
  clear hg3 hcur hb3 hi0 hz0 hz1 hz2 R3
  clear hMi
  go_wp2
  go_loopw [4] (fun i wr => ∃ k : Nat, k ≤ M ∧ i = .int .i64 k ∧ Hid (WRel w3 wr w.heap.size M M (List.replicate M (0, 0, 0)) rmk k)) (fun i _ => M - (intOf i).toNat)
  case atStart => exact ⟨0, Nat.zero_le _, rfl, S0⟩
  case round =>
    obtain ⟨k, hk, rfl, hr⟩ := hrel
    clear S0
    by_cases hlt : k < M
    · obtain ⟨⟨a0, d0⟩, ⟨a1, d1⟩, ⟨a2, d2⟩⟩ := hr.out.1.cells k hlt
      have f0 := hr.out.1.frozen (k * 3)
      have f1 := hr.out.1.frozen (k * 3 + 1)
      have f2 := hr.out.1.frozen (k * 3 + 2)
      have i1 : (k : Int) < (M : Int) := by omega
      have ST := hd (hr.out.step (by simp) hlt 1 (-1) k rfl)
      clear hr
      go_wp2
      exact ⟨⟨k + 1, by omega, by go_num, ST⟩, by simp [intOf]; omega⟩
    · obtain rfl : k = M := by omega
      have R4 : RowE wr w.heap.size k k ((List.range k).map rmk) := by
        have := hr.out.1
        rw [List.drop_of_length_le (by simp)] at this
        simpa using this
      have B4 := hd (B3.out.trans (hr.out.2.below B3.out.size (fun q hq => by rw [hq]; exact Nat.le_refl _)))
      have T0 : Hid (WRel wr wr w.heap.size k k ((List.range k).map rmk) (fun i => xs.getD i (0, 0, 0)) 0) := ⟨by simpa using R4, Fr.refl _ _⟩
      have hnk : n ≤ k := by have := HM.out; omega
      clear hr R4 B3
      go_wp2
      go_loopw [5] (fun i wq => ∃ j : Nat, j ≤ n ∧ i = .int .i64 j ∧ Hid (WRel wr wq w.heap.size k k ((List.range k).map rmk) (fun i => xs.getD i (0, 0, 0)) j)) (fun i _ => n - (intOf i).toNat)
      case atStart => exact ⟨0, Nat.zero_le _, rfl, T0⟩
      case round =>
        obtain ⟨j, hj, rfl, hq⟩ := hrel
        clear T0
        have hlk : ((List.range k).map rmk).length = k := by simp
        by_cases hjn : j < n
        · have jx : j < xs.length := by have := HL.out; omega
          have E1 := (HE.out.below B4.out).fr hq.out.2 (fun _ b off e => by
            obtain ⟨b', o', e', hb'⟩ := HE.out.addr (by omega)
            have := Option.some.inj (e.symm.trans e')
            simp at this
            have h1 := this.1
            omega)
          obtain ⟨b, off, rfl, hb⟩ := E1.addr (by omega)
          obtain ⟨e0, e1, e2⟩ := E1.at j hjn jx
          obtain ⟨⟨a0, d0⟩, ⟨a1, d1⟩, ⟨a2, d2⟩⟩ := hq.out.1.cells j (by omega)
          have f0 := hq.out.1.frozen (j * 3)
          have f1 := hq.out.1.frozen (j * 3 + 1)
          have f2 := hq.out.1.frozen (j * 3 + 2)
          have i1 : (j : Int) < (n : Int) := by omega
          have i2 : (j : Int) < (k : Int) := by omega
          have gd : xs.getD j (0, 0, 0) = xs[j] := by simp [List.getD, List.getElem?_eq_getElem jx]
          have ST := hd (hq.out.step hlk (by omega) xs[j].1 xs[j].2.1 xs[j].2.2 gd)
          generalize xs[j] = X at *
          obtain ⟨x0, x1, x2⟩ := X
          simp only [] at e0 e1 e2 ST
          clear hq E1 gd
          go_wp2
          exact ⟨⟨j + 1, by omega, by go_num, ST⟩, by simp [intOf]; omega⟩
        · obtain rfl : j = n := by omega
          have R : Hid (RowE wr w.heap.size k k (roomyP xs) ∧ Below w.heap.size w wr) := by
            refine ⟨?_, B4.out.trans (hq.out.2.below B4.out.size (fun q hq => by rw [hq]; exact Nat.le_refl _))⟩
            have h := hq.out.1
            have e1 : (List.range j).map (fun i => xs.getD i (0, 0, 0)) = xs := by have := range_getD xs (0, 0, 0); rw [HL.out] at this; exact this
            have e2 : ((List.range k).map rmk).drop j = (List.range 4).map (fun i => rmk (xs.length + i)) := by
              rw [HM.out, range_add, List.drop_append, List.drop_of_length_le (by simp), HL.out]
              simp
            rw [e1, e2] at h
            exact h
          clear hq
          go_wp2
          go_ret
          exact ⟨_, rfl, Nat.le_refl _, R.out⟩

end Go.Proofs.Ytbgpmekjcepmaab
