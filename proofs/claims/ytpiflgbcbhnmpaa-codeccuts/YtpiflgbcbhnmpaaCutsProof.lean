/- PROVED: for all blocks, every number and all bytes the law CodecCuts answers true and leaves its arguments as they were: no beginning of a replay's bytes is one itself, and none with bytes behind it. No conditions. -/
import Derived.Test.YtpiflgbcbhnmpaaRowKit
import Derived.Test.YtpiflgbcbhnmpaaOpen
import Derived.Test.YtpiflgbcbhnmpaaCutsWalk
import Derived.HandedShaped
namespace Go.Proofs.Ytpiflgbcbhnmpaa
open Go.ChangeShapes Go.WideShapes Go.ChangeAt Go.RowKit
set_option maxRecDepth 100000 in
theorem cuts_lifted (os : Os) (started : os.Started) (H : Type) (enc : TypeId × Value → H) :
    ReturnsInHanded {} Try.checked os 8 .any (Rows.codecCutsSpec.pre6 enc Try.prog Try.f8 Rows.codecCutsRow.domain false) (Rows.codecCutsSpec.post enc Try.prog Try.f8 false true false false) := by
  refine returnsInHanded_of_change_shaped (C := Try.checked) own started (by kernel_rfl) Try.func8
    (ChangeSpec.witness6 (enc := enc) (C := Try.checked) false ⟨#[], #[.slice none 0 0, .int .u16 0, .slice none 0 0], []⟩ 8 (by kernel_rfl) (by kernel_rfl) (by kernel_rfl) (by kernel_rfl)) ?_
  intro W base args ds gs before hval0 hW hcnd hwt _ _
  have hval : ∀ (j : Nat) t v, Try.f8.params[j]? = some t → args[j]? = some v → Value.okWide Try.prog W .any base t v := hval0
  have hW' := hW
  obtain ⟨p, q, hA0, hV, rfl, hfz, hnd⟩ := hW
  have hA : DataW.TrodAll enc Try.prog W 0 (fun _ => true) true Try.f8.params.toList args.toList ds p := hA0
  have hwt2 : (DataW.weightsEach Try.prog (Try.f8.params.toList ++ Rows.codecCutsSpec.plain.varTypes Try.prog) (ds ++ gs)).all (· ≤ reachBytes) = true := hwt
  rw [Try.params8] at hA hval hwt2
  obtain ⟨v0, vs0, d0, ds0, p0, q0, hargs, rfl, rfl, h0, r0⟩ := trodAll_cons hA
  obtain ⟨v1, vs1, d1, ds1, p1, q1, rfl, rfl, rfl, h1, r1⟩ := trodAll_cons r0
  obtain ⟨v2, vs2, d2, ds2, p2, q2, rfl, rfl, rfl, h2, r2⟩ := trodAll_cons r1
  obtain ⟨rfl, rfl, rfl⟩ := trodAll_nil r2
  obtain rfl : args = #[v0, v1, v2] := by cases args; simp_all
  obtain ⟨rfl, rfl⟩ := trodVars_none hV
  have hL : Light d0 43 := fun n hn => by
    have := List.all_eq_true.1 hwt2 n (by
      show n ∈ DataW.weightsEach Try.prog _ _
      simp only [List.cons_append, DataW.weightsEach]
      exact List.mem_append_left _ hn)
    simpa using this
  have k0 := h0
  have lt0 : ∀ x ∈ p0, x.block < W.heap.size := by obtain ⟨m, hm⟩ := k0; exact DataW.trod_lt m _ _ _ hm
  have k2 := h2
  have lt2 : ∀ x ∈ p2, x.block < W.heap.size := by obtain ⟨m, hm⟩ := k2; exact DataW.trod_lt m _ _ _ hm
  obtain ⟨pp, len, cap, rfl⟩ := okWide_slice Try.underlying43 (hval 0 43 v0 rfl rfl)
  obtain ⟨qq, c, ks, hv, hlo, hraw, hlen⟩ : ∃ (q : Option Addr) (c : Nat) (ks : List Bk), Value.slice pp len cap = .slice q ks.length c ∧ BksLo W W.heap.size (.slice q ks.length c) ks ∧ (∀ k ∈ ks, BkRaw k) ∧ ks.length ≤ 1000000000000000 := by
    obtain ⟨fuel, hf⟩ := h0
    exact tr_bks (x := (d0, p0)) (by simpa [Value.cells] using hf) hL
  rw [hv] at k0 ⊢
  obtain ⟨a1, rfl, rfl, rfl, wa1⟩ := open_int Try.underlying72 (hval 1 72 v1 rfl rfl) h1
  obtain ⟨pa, M, cap2, ms, rfl, hM, hx, hB, _⟩ := open_slice (hval 2 23 v2 rfl rfl) h2
  clear hA0 hval0
  have ba1 := bounds_u16 wa1
  obtain ⟨s, rfl⟩ : ∃ n : Nat, a1 = (n : Int) := ⟨a1.toNat, by omega⟩
  have walk : Calls Try.prog 8 #[.slice qq ks.length c, .int .u16 (s : Int), .slice pa M cap2] W fun e w' => e = .returned (.bool true) ∧ Below W.heap.size W w' := cuts_walk ks hraw qq ks.length c rfl hlen s (by omega) ms hx pa M cap2 hM W hlo hB
  refine walk.mono fun e W' ⟨he, bel⟩ => ?_
  subst he
  rw [hv] at hW'
  exact ⟨_, rfl, _, _, _, [], _, [], hW', trodAll_mk1 (shut_bool Try.underlying4 _), (trodAll_cons_mk (Below.trod laidOut (by kernel_rfl) (of_decide_eq_true (by kernel_rfl)) k0 bel lt0) (trodAll_cons_mk (shut_int Try.underlying72 wa1) (trodAll_cons_mk (Below.trod laidOut (by kernel_rfl) (of_decide_eq_true (by kernel_rfl)) k2 bel lt2) trodAll_mk0))), rfl, bel.frame _, fun h => by cases h⟩
theorem cuts_holds : Rows.CodecCutsSaid :=
  OpenClaim.holds_of_wide 8 Try.f8 rfl rfl rfl rfl rfl rfl rfl ⟨rfl, rfl, rfl, rfl, rfl⟩ rfl rfl rfl rfl rfl (by kernel_rfl) Try.func8 (by kernel_rfl)
    (of_decide_eq_true (by kernel_rfl)) (by unfold Func.isWrapper; first | (rw [if_pos (by decide +kernel)]; kernel_rfl) | (rw [if_neg (by decide +kernel)]; exact ⟨rfl, rfl⟩))
    (fun os started H enc _ => cuts_lifted os started H enc)
#print axioms cuts_holds
end Go.Proofs.Ytpiflgbcbhnmpaa
