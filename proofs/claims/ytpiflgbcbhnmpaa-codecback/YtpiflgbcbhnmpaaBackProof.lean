/- PROVED: for all blocks, every result and all numbers the law CodecBack answers true and leaves its arguments as they were: what is written is read as it was. No conditions. -/
import Derived.Test.YtpiflgbcbhnmpaaRowKit
import Derived.Test.YtpiflgbcbhnmpaaOpen
import Derived.Test.YtpiflgbcbhnmpaaBackWalk
import Derived.HandedShaped
namespace Go.Proofs.Ytpiflgbcbhnmpaa
open Go.ChangeShapes Go.WideShapes Go.ChangeAt Go.RowKit
theorem okWide_agg {P : Program} {w : World} {r : Reach} {base : Nat} {t : TypeId} {v : Value} {fs : Array Field} (ht : P.underlying t = some (.struct fs)) (h : Value.okWide P w r base t v) : ∃ cs : Array Value, v = .agg cs := by
  simp only [Value.okWide, ht] at h
  obtain ⟨cs, h1, _⟩ := h
  exact ⟨cs, h1⟩
section
variable {H : Type} {enc : TypeId × Value → H} {W : World} {fuel : Nat} {cs : List Value} {x : DataW H × List MemPlace}
theorem cells2 : Try.prog.cellsOf 2 = 1 := by kernel_rfl
theorem cells69 : Try.prog.cellsOf 69 = 2 := by kernel_rfl
theorem tr_two (h : Tr enc W fuel 69 cs = some x) : ∃ (n : Nat) (z : Int), cs = [.int .u64 (n : Int), .int .i64 z] ∧ n < 18446744073709551616 ∧ -9223372036854775808 ≤ z ∧ z < 9223372036854775808 := by
  obtain ⟨hl, n, hf⟩ := tr_fields Try.underlying69 h
  rw [cells69] at hl
  obtain ⟨y0, h0, lh0⟩ := hf 0 _ 22 0 1 rfl rfl rfl cells22
  obtain ⟨y1, h1, lh1⟩ := hf 1 _ 2 1 1 rfl rfl rfl cells2
  obtain ⟨a0, e0, w0⟩ := tr_int Try.underlying22 h0
  obtain ⟨a1, e1, w1⟩ := tr_int Try.underlying2 h1
  have hw := bounds_u64 w0
  have hz := bounds_i64 w1
  refine ⟨a0.toNat, a1, ?_, by omega, by omega, by omega⟩
  match cs, hl with
  | [c0, c1], hl =>
    simp at e0 e1
    subst e0 e1
    rw [show ((a0.toNat : Nat) : Int) = a0 by omega]
end
set_option maxRecDepth 100000 in
theorem back_lifted (os : Os) (started : os.Started) (H : Type) (enc : TypeId × Value → H) :
    ReturnsInHanded {} Try.checked os 6 .any (Rows.codecBackSpec.pre6 enc Try.prog Try.f6 Rows.codecBackRow.domain false) (Rows.codecBackSpec.post enc Try.prog Try.f6 false true false false) := by
  refine returnsInHanded_of_change_shaped (C := Try.checked) own started (by kernel_rfl) Try.func6
    (ChangeSpec.witness6 (enc := enc) (C := Try.checked) false ⟨#[], #[.slice none 0 0, .agg (rsC 0 0 0 (zB 32) (zB 32)).toArray, .agg #[.int .u64 0, .int .i64 0]], []⟩ 8 (by kernel_rfl) (by kernel_rfl) (by kernel_rfl) (by kernel_rfl)) ?_
  intro W base args ds gs before hval0 hW hcnd hwt _ _
  have hval : ∀ (j : Nat) t v, Try.f6.params[j]? = some t → args[j]? = some v → Value.okWide Try.prog W .any base t v := hval0
  have hW' := hW
  obtain ⟨p, q, hA0, hV, rfl, hfz, hnd⟩ := hW
  have hA : DataW.TrodAll enc Try.prog W 0 (fun _ => true) true Try.f6.params.toList args.toList ds p := hA0
  have hwt2 : (DataW.weightsEach Try.prog (Try.f6.params.toList ++ Rows.codecBackSpec.plain.varTypes Try.prog) (ds ++ gs)).all (· ≤ reachBytes) = true := hwt
  rw [Try.params6] at hA hval hwt2
  obtain ⟨v0, vs0, d0, ds0, p0, q0, hargs, rfl, rfl, h0, r0⟩ := trodAll_cons hA
  obtain ⟨v1, vs1, d1, ds1, p1, q1, rfl, rfl, rfl, h1, r1⟩ := trodAll_cons r0
  obtain ⟨v2, vs2, d2, ds2, p2, q2, rfl, rfl, rfl, h2, r2⟩ := trodAll_cons r1
  obtain ⟨rfl, rfl, rfl⟩ := trodAll_nil r2
  obtain rfl : args = #[v0, v1, v2] := by cases args; simp_all
  obtain ⟨rfl, rfl⟩ := trodVars_none hV
  have hL : Light d0 43 := fun n hn => by
    have := List.all_eq_true.1 hwt2 n (by
      show n ∈ DataW.weightsEach Try.prog _ _
      simp only [List.cons_append, DataW.weightsEach]
      exact List.mem_append_left _ hn)
    simpa using this
  have k0 := h0
  have lt0 : ∀ x ∈ p0, x.block < W.heap.size := by obtain ⟨m, hm⟩ := k0; exact DataW.trod_lt m _ _ _ hm
  have k1 := h1
  have lt1 : ∀ x ∈ p1, x.block < W.heap.size := by obtain ⟨m, hm⟩ := k1; exact DataW.trod_lt m _ _ _ hm
  have k2 := h2
  have lt2 : ∀ x ∈ p2, x.block < W.heap.size := by obtain ⟨m, hm⟩ := k2; exact DataW.trod_lt m _ _ _ hm
  obtain ⟨pp, len, cap, rfl⟩ := okWide_slice Try.underlying43 (hval 0 43 v0 rfl rfl)
  obtain ⟨c1, rfl⟩ := okWide_agg Try.underlying41 (hval 1 41 v1 rfl rfl)
  obtain ⟨c2, rfl⟩ := okWide_agg Try.underlying69 (hval 2 69 v2 rfl rfl)
  obtain ⟨qq, c, ks, hv, hlo, hraw, hlen⟩ : ∃ (q : Option Addr) (c : Nat) (ks : List Bk), Value.slice pp len cap = .slice q ks.length c ∧ BksLo W W.heap.size (.slice q ks.length c) ks ∧ (∀ k ∈ ks, BkRaw k) ∧ ks.length ≤ 1000000000000000 := by
    obtain ⟨fuel, hf⟩ := h0
    exact tr_bks (x := (d0, p0)) (by simpa [Value.cells] using hf) hL
  obtain ⟨r, hv2, hrr⟩ : ∃ r : Rs, c1.toList = r.cells ∧ RsRaw r := by
    obtain ⟨fuel, hf⟩ := h1
    exact tr_res (x := (d1, p1)) (by simpa [Value.cells] using hf)
  obtain ⟨n, z, hv3, hn, hz0, hz1⟩ : ∃ (n : Nat) (z : Int), c2.toList = [.int .u64 (n : Int), .int .i64 z] ∧ n < 18446744073709551616 ∧ -9223372036854775808 ≤ z ∧ z < 9223372036854775808 := by
    obtain ⟨fuel, hf⟩ := h2
    exact tr_two (x := (d2, p2)) (by simpa [Value.cells] using hf)
  rw [hv] at k0 ⊢
  clear hA0 hval0
  have e1 : c1 = r.cells.toArray := by rw [← hv2]
  have e2 : c2 = #[.int .u64 (n : Int), .int .i64 z] := by rw [← Array.toArray_toList (xs := c2), hv3]
  subst e1 e2
  have walk : Calls Try.prog 6 #[.slice qq ks.length c, .agg r.cells.toArray, .agg #[.int .u64 (n : Int), .int .i64 z]] W fun e w' => e = .returned (.bool true) ∧ Below W.heap.size W w' := back_walk ks hraw qq ks.length c rfl hlen r hrr n hn z hz0 hz1 W hlo
  refine walk.mono fun e W' ⟨he, bel⟩ => ?_
  subst he
  rw [hv] at hW'
  exact ⟨_, rfl, _, _, _, [], _, [], hW', trodAll_mk1 (shut_bool Try.underlying4 _), (trodAll_cons_mk (Below.trod laidOut (by kernel_rfl) (of_decide_eq_true (by kernel_rfl)) k0 bel lt0) (trodAll_cons_mk (Below.trod laidOut (by kernel_rfl) (of_decide_eq_true (by kernel_rfl)) k1 bel lt1) (trodAll_cons_mk (Below.trod laidOut (by kernel_rfl) (of_decide_eq_true (by kernel_rfl)) k2 bel lt2) trodAll_mk0))), rfl, bel.frame _, fun h => by cases h⟩
theorem back_holds : Rows.CodecBackSaid :=
  OpenClaim.holds_of_wide 6 Try.f6 rfl rfl rfl rfl rfl rfl rfl ⟨rfl, rfl, rfl, rfl, rfl⟩ rfl rfl rfl rfl rfl (by kernel_rfl) Try.func6 (by kernel_rfl)
    (of_decide_eq_true (by kernel_rfl)) (by unfold Func.isWrapper; first | (rw [if_pos (by decide +kernel)]; kernel_rfl) | (rw [if_neg (by decide +kernel)]; exact ⟨rfl, rfl⟩))
    (fun os started H enc _ => back_lifted os started H enc)
#print axioms back_holds
end Go.Proofs.Ytpiflgbcbhnmpaa
