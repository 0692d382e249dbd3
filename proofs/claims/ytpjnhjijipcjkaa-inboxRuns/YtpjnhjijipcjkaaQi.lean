/-
  gone.
-/
import Derived.Test.YtpjnhjijipcjkaaQha
import Derived.Test.YtpjnhjijipcjkaaQhb
import Derived.Test.YtpjnhjijipcjkaaQhc
namespace Go.Proofs.Ytpjnhjijipcjkaa
open Go.RowKit Go.Shelf
set_option linter.unusedVariables false
attribute [local go_sem] Oper.semAt_some

section
variable {G : Thg} {w0 w : World} {K : Nat → Prop} {x a b r q bx : Nat} {k s nn v : Int} {ia : Option Addr} {il ic : Nat}
theorem GS.fin {A B : Rb} {m n : Nat} {W : World} (h : GS G w0 w K x a b r q bx k s nn v ia il ic A A B m n W) (o : Obj) : PB G w0 (W.putObj (w.heap.size + 4) o) K x a b r q A B m ∧ KP K w (W.putObj (w.heap.size + 4) o) :=
  ⟨MO.less (h.write (Fr.putObj W _ o) (by omega)) (fun k hk => .inl hk), fun k hk => (World.putObj_heap_other (by have := h.lt k hk; omega)).trans (h.kp k hk)⟩
theorem heapA (w : World) (o : Obj) {k : Nat} (hk : k < w.heap.size) : (w.alloc o).heap[k]? = w.heap[k]? := Below.heap_alloc _ _ _ hk
theorem gs_start {A B : Rb} {m : Nat} (h : PB G w0 w K x a b r q A B m) (hm : m ≤ 44) (hbx : K bx) (hcb : w.heap[bx]? = some (.cells #[pt a] 28 (0, 0))) (lr : Loop) :
    GS G w0 w K x a b r q bx k s nn v ia il ic A A B m 0 ((((((w.alloc (.cells #[pt x] 61)).alloc (.cells #[.int .i64 k, .int .i64 s, .int .i64 nn, .int .i64 v, .slice ia il ic] 56)).alloc (.cells #[.bool false] 4)).alloc (.cells #[.int .i64 0] 3)).alloc (.deferred (some []))).alloc (.loop lr)) := by
  have hb : Below w.heap.size w ((((((w.alloc (.cells #[pt x] 61)).alloc (.cells #[.int .i64 k, .int .i64 s, .int .i64 nn, .int .i64 v, .slice ia il ic] 56)).alloc (.cells #[.bool false] 4)).alloc (.cells #[.int .i64 0] 3)).alloc (.deferred (some []))).alloc (.loop lr)) := ((((((Below.refl _ _).alloc (Nat.le_refl _) _).alloc (by simp) _).alloc (by simp; omega) _).alloc (by simp; omega) _).alloc (by simp; omega) _).alloc (by simp; omega) _
  have hlt : ∀ k, K k → k < w.heap.size := h.old
  refine ⟨MO.adds h hb (fun k hk => hk.imp id (fun h => h.1)) (fun k hk => ?_), hm, ?_, ?_, ⟨false, ?_⟩, ?_, (hb.block bx (hlt bx hbx)).trans hcb, fun k hk => hb.block k (hlt k hk), hbx, hlt, h.base.size⟩
  · simp
    rcases hk with hk | hk
    · have := hlt k hk; omega
    · omega
  · rw [heapA _ _ (by simp; omega), heapA _ _ (by simp; omega), heapA _ _ (by simp; omega), heapA _ _ (by simp; omega), heapA _ _ (by simp)]
    exact heap_alloc_new w _
  · rw [heapA _ _ (by simp), heapA _ _ (by simp), heapA _ _ (by simp), heapA _ _ (by simp)]
    have := heap_alloc_new (w.alloc (.cells #[pt x] 61)) (.cells #[.int .i64 k, .int .i64 s, .int .i64 nn, .int .i64 v, .slice ia il ic] 56)
    rwa [World.size_alloc] at this
  · rw [heapA _ _ (by simp), heapA _ _ (by simp), heapA _ _ (by simp)]
    have := heap_alloc_new ((w.alloc (.cells #[pt x] 61)).alloc (.cells #[.int .i64 k, .int .i64 s, .int .i64 nn, .int .i64 v, .slice ia il ic] 56)) (.cells #[.bool false] 4)
    rwa [World.size_alloc, World.size_alloc] at this
  · rw [heapA _ _ (by simp), heapA _ _ (by simp)]
    have := heap_alloc_new (((w.alloc (.cells #[pt x] 61)).alloc (.cells #[.int .i64 k, .int .i64 s, .int .i64 nn, .int .i64 v, .slice ia il ic] 56)).alloc (.cells #[.bool false] 4)) (.cells #[.int .i64 0] 3)
    rwa [World.size_alloc, World.size_alloc, World.size_alloc] at this
end

set_option maxRecDepth 100000 in
set_option maxHeartbeats 4000000 in
theorem gone_of (d : Nat) (IH : ∀ d', d' < d → GoneC d') : GoneC d := by
  intro G w0 w K x a b r q bx k s nn v ia il ic A B m hPB hK hm hT hbx hcb
  have HS := hd (fun lr => gs_start (k := k) (s := s) (nn := nn) (v := v) (ia := ia) (il := il) (ic := ic) hPB hm hbx hcb lr)
  have HI := hd IH
  have HK := hd hK
  have HT := hd hT
  have hfh : Fence.wide.fn 46 := trivial
  have Hc : Hid (A.c ≤ 4096) := hd (by
    obtain ⟨S, h1, -⟩ := hPB.now 0
    obtain ⟨bb, h2, -⟩ := h1
    exact h2.ok.c2)
  clear hPB hK hm hT hbx hcb IH
  refine (callsIn_wide (n := 8)).1 ?_
  refine callsIn_of_wp_marks Try.func32 rfl trivial ?_ rfl
  simp only [Try.ntmps32, List.size_toArray, List.length_cons, List.length_nil, Nat.reduceAdd, Nat.reduceSub, Array.replicate_succ, Array.replicate_zero, List.push_toArray, List.append_toArray, List.nil_append, List.cons_append]
  gi_wp2_with fail
  refine range_at (F := Fence.wide) (α := Int × Int × Nat) rfl (by omega) (gf := 52) (lb := #[.pointer (some ⟨bx, 0, none⟩)]) rfl trivial (enters_of Try.func52 (by kernel_rfl) rfl) encN (fun _ => rfl) (w.heap.size + 5) (w.heap.size + 4) (by simp) (by simp)
    (Gi G w0 w K x a b r q bx k s nn v ia il ic) (Ge G w0 w K x a b r q bx k s nn v ia il ic) (Gr G w0 w K x a b r q bx k s nn v ia il ic) (Gy G w0 w K x a b r q bx k s nn v ia il ic) (Gx G w0 w K x a b r q bx k s nn v ia il ic)
    (fun t => { tmps := #[pt x, opA k s nn v ia il ic, .func (.func 52) #[] #[.pointer (some ⟨bx, 0, none⟩)], .pointer (some ⟨w.heap.size, 0, none⟩), .pointer (some ⟨w.heap.size + 1, 0, none⟩), undef, .pointer (some ⟨w.heap.size + 2, 0, none⟩), .pointer (some ⟨w.heap.size + 3, 0, none⟩), .int .i64 t.1, .int .i64 t.2.1, undef, undef, undef, undef, .func (.func 52) #[] #[.pointer (some ⟨bx, 0, none⟩)], .int .i64 t.1, .int .i64 t.2.1, undef, undef, undef, undef, undef, undef, undef, undef, undef, undef, undef, undef, undef, undef, undef, undef, undef, undef, undef, undef, undef, undef, undef, undef, undef, undef, undef, undef, undef, undef, undef, undef, undef, undef, undef, undef, undef, undef, undef, undef, undef, undef, undef, undef, undef, undef, undef, undef, undef], defers := [] }) ?pY ?pI ?pIe ?pIx ?h0 ?hseq ?hassign ?hbody ?hdone ?hstop
  case pY =>
    rintro t W o ⟨A, B, m, n, hG, r⟩
    exact ⟨A, B, m, n, hG.putObj o, r⟩
  case pI =>
    rintro t W o ⟨j, hj, A, B, m, n, hG, r⟩
    exact ⟨j, hj, A, B, m, n, hG.putObj o, r⟩
  case pIe =>
    rintro W o ⟨A, B, m, n, hG, r⟩
    exact ⟨A, B, m, n, hG.putObj o, r⟩
  case pIx =>
    rintro c W o ⟨hc, ⟨A, B, m, n, hG⟩, h6⟩
    exact ⟨hc, ⟨A, B, m, n, hG.putObj o⟩, (World.putObj_heap_other (by omega)).trans h6⟩
  case h0 =>
    intro lr
    exact ⟨_, A, B, m, 0, HS.out lr, rfl, by unfold mea; have := Hc.out; omega⟩
  case hseq =>
    intro lr W1 X hL h0 hY
    exact gone_seq 8 _ _ (by omega) rfl rfl lr W1 X hL h0 hY
  case hassign =>
    rintro ⟨num, z, j⟩ W K hK
    simp only [encN]
    gi_wp2
    exact hK
  case hbody =>
    rintro ⟨num, z, j⟩ lr W hLB ⟨A, B, m, n, hG, hh, rfl, hz, hc, rfl, hb⟩
    have hil := HT.out.len
    by_cases hlt : n < il
    · obtain ⟨d', rfl, bb, off, p, hia, hbb, hop, hTp⟩ := HT.out.at hlt
      by_cases h8 : p.kind = 8
      · exact round_run 8 _ _ (by omega) rfl rfl lr W HK A B m n z hLB hG hh hz hc hb hil d' (hd (HI.out d' (by omega))) bb off p hia hbb hop hlt h8 (hd hTp)
      · exact round_step 8 _ _ (by omega) rfl rfl lr W HK A B m n z hLB hG hh hz hc hb hil bb off p hia hbb hop hlt h8
    · exact round_none 8 _ _ (by omega) rfl rfl lr W HK A B m n z hLB hG hh hz hc hb hil hlt
  case hdone =>
    rintro W ⟨A, B, m, n, hG, hh⟩ hD
    obtain ⟨e3, e42, e44, e7, f7, f6, ⟨bo6, e6⟩, ls⟩ := hG.cells
    obtain ⟨aL, cL, vW, hbx3, -, -, hx3⟩ := pb_box hG.mo
    have c2 := cell_row hbx3 2
    simp at c2
    have CH := hd (mr_head hG.mo 2 rfl)
    obtain ⟨G6, h6⟩ := hG.set6 true
    have F6 : Fr (fun k => k = w.heap.size + 2) W (W.setCell ⟨w.heap.size + 2, 0, none⟩ (.bool true)) := Fr.setCell _ _ _ rfl
    have D6 := (F6.block _ (block_lt hD) (by omega)).trans hD
    obtain ⟨fin1, fin2⟩ := G6.fin (.deferred none)
    have h6' : ((W.setCell ⟨w.heap.size + 2, 0, none⟩ (.bool true)).putObj (w.heap.size + 4) (.deferred none)).cell? ⟨w.heap.size + 2, 0, none⟩ = some (.bool true) := by
      rw [cell_row ((World.putObj_heap_other (by omega)).trans h6)]
      rfl
    have Z := hd (And.intro D6 (And.intro fin1 (And.intro fin2 h6')))
    have HH := hd hh
    have hm44 := hd hG.hm
    clear hG hbx3 G6 h6 F6 D6 fin1 fin2 h6' hD hh HS HI HK HT
    gi_wp2_with fail
    refine (callsIn_wide.2 CH.out).mono ?_
    clear CH
    rintro e W' ⟨rfl, rfl⟩
    rw [HH.out]
    gi_wp2_with fail
    refine ⟨by simp, .inl ⟨_, _, rfl, run_takeDeferred Z.out.1, ?_⟩⟩
    refine ⟨.bool true, ?_, rfl, A, B, m, hm44.out, Z.out.2.1, Z.out.2.2.1⟩
    have z6 := Z.out.2.2.2
    simp [results, Try.results32, go_sem, z6]
  case hstop =>
    rintro c W ⟨rfl, ⟨A, B, m, n, hG⟩, h6⟩ hD
    obtain ⟨fin1, fin2⟩ := hG.fin (.deferred none)
    have z6 : (W.putObj (w.heap.size + 4) (.deferred none)).cell? ⟨w.heap.size + 2, 0, none⟩ = some (.bool true) := by
      rw [cell_row ((World.putObj_heap_other (by omega)).trans h6)]
      rfl
    gi_wp2_with fail
    refine ⟨by simp, .inl ⟨_, _, rfl, run_takeDeferred hD, ?_⟩⟩
    refine ⟨.bool true, ?_, rfl, A, B, m, hG.hm, fin1, fin2⟩
    simp [results, Try.results32, go_sem, z6]

theorem gone_any (d : Nat) : GoneC d := by
  induction d using Nat.strongRecOn with
  | _ d ih => exact gone_of d ih

end Go.Proofs.Ytpjnhjijipcjkaa
