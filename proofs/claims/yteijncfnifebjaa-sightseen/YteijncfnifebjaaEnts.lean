/- Lists of entities: Seen 19, the reference's 20, Same 18. -/
import Derived.Test.YteijncfnifebjaaMerge
namespace Go.Proofs.Yteijncfnifebjaa
open Go.RowKit
/-- An entity's numbers in its cells. -/
def nE (e : List Int) (j : Nat) : Int := e.getD j 0
def encN (e : List Int) : List Value := [.int .i64 (nE e 0), .int .i64 (nE e 1), .int .i64 (nE e 2), .int .i64 (nE e 3), .int .i64 (nE e 4), .int .i64 (nE e 5), .int .i64 (nE e 6), .int .i64 (nE e 7), .int .i64 (nE e 8), .int .i64 (nE e 9), .int .i64 (nE e 10)]
theorem layN : Lay encN 11 := ⟨by omega, fun _ => rfl, fun x v hv => by simp only [encN, List.mem_cons, List.not_mem_nil, or_false] at hv; rcases hv with rfl | rfl | rfl | rfl | rfl | rfl | rfl | rfl | rfl | rfl | rfl <;> rfl⟩
theorem info60 : (Try.prog.info? 60).map (fun i => (i.zero, i.size, i.bytes)) = some (some (.agg #[.int .i64 0, .int .i64 0, .int .i64 0, .int .i64 0, .int .i64 0, .int .i64 0, .int .i64 0, .int .i64 0, .int .i64 0, .int .i64 0, .int .i64 0]), 11, 88) := by kernel_rfl
/-- The eleven cells of an element of a row. -/
theorem RowAt.nums {w : World} {p : Option Addr} {n cap : Nat} {l : List (List Int)} (h : RowAt encN 11 w (.slice p n cap) l) (i : Nat) (hi : i < n) : ∃ (hx : i < l.length) (sb so : Nat) (z0 z1 z2 z3 z4 z5 z6 z7 z8 z9 z10 : Int), p = some ⟨sb, so, none⟩ ∧ sb < w.heap.size ∧ encN l[i] = [.int .i64 z0, .int .i64 z1, .int .i64 z2, .int .i64 z3, .int .i64 z4, .int .i64 z5, .int .i64 z6, .int .i64 z7, .int .i64 z8, .int .i64 z9, .int .i64 z10] ∧ nE l[i] 3 = z3 ∧ nE l[i] 4 = z4 ∧
    (w.cell? ⟨sb, so + i * 11, none⟩ = some (.int .i64 z0) ∧ w.cell? ⟨sb, so + i * 11 + 1, none⟩ = some (.int .i64 z1) ∧ w.cell? ⟨sb, so + i * 11 + 2, none⟩ = some (.int .i64 z2) ∧ w.cell? ⟨sb, so + i * 11 + 3, none⟩ = some (.int .i64 z3) ∧ w.cell? ⟨sb, so + i * 11 + 4, none⟩ = some (.int .i64 z4) ∧ w.cell? ⟨sb, so + i * 11 + 5, none⟩ = some (.int .i64 z5) ∧ w.cell? ⟨sb, so + i * 11 + 6, none⟩ = some (.int .i64 z6) ∧ w.cell? ⟨sb, so + i * 11 + 7, none⟩ = some (.int .i64 z7) ∧ w.cell? ⟨sb, so + i * 11 + 8, none⟩ = some (.int .i64 z8) ∧ w.cell? ⟨sb, so + i * 11 + 9, none⟩ = some (.int .i64 z9) ∧ w.cell? ⟨sb, so + i * 11 + 10, none⟩ = some (.int .i64 z10)) := by
  obtain ⟨hx, sb, so, rfl, hsb, hc⟩ := RowAt.pos layN h i hi
  exact ⟨hx, sb, so, _, _, _, _, _, _, _, _, _, _, _, rfl, hsb, rfl, rfl, rfl, hc 0 _ rfl, hc 1 _ rfl, hc 2 _ rfl, hc 3 _ rfl, hc 4 _ rfl, hc 5 _ rfl, hc 6 _ rfl, hc 7 _ rfl, hc 8 _ rfl, hc 9 _ rfl, hc 10 _ rfl⟩
set_option maxRecDepth 20000 in
set_option maxHeartbeats 4000000 in
theorem sameN_any (l : List (List Int)) (p q : Option Addr) (N cap cap' : Nat) (w : World) (h : RowAt encN 11 w (.slice p N cap) l) (h' : RowAt encN 11 w (.slice q N cap') l) (hN : N ≤ 1000000) : Calls Try.prog 18 #[.slice p N cap, .slice q N cap'] w fun e w' => Out w (.bool true) e w' := by
  unfold Out
  have H0 := hid (fun W (hb : Below w.heap.size w W) => h.below hb)
  have H1 := hid (fun W (hb : Below w.heap.size w W) => h'.below hb)
  have hN' : (N : Int) ≤ 1000000 := by omega
  clear h h' hN
  go_enter Try.func18, Try.ntmps18
  go_wp2_with fail
  go_loopw [5] (fun iv wr => ∃ i : Nat, iv = .int .i64 (i : Int) ∧ i ≤ N ∧ Hid (Below w.heap.size w wr)) (fun iv _ => N - (intOf iv).toNat)
  case atStart => exact ⟨0, rfl, by omega, Below.refl _ _⟩
  case round =>
    obtain ⟨i, rfl, hi, HB⟩ := hrel
    by_cases hlt : i < N
    · obtain ⟨hx, sb, so, z0, z1, z2, z3, z4, z5, z6, z7, z8, z9, z10, rfl, -, he, -, -, hc⟩ := RowAt.nums (H0.out wr HB.out) i hlt
      obtain ⟨hx', sb', so', y0, y1, y2, y3, y4, y5, y6, y7, y8, y9, y10, rfl, -, he', -, -, hc'⟩ := RowAt.nums (H1.out wr HB.out) i hlt
      rw [he] at he'
      simp only [List.cons.injEq, Value.int.injEq, true_and, and_true] at he'
      obtain ⟨rfl, rfl, rfl, rfl, rfl, rfl, rfl, rfl, rfl, rfl, rfl⟩ := he'
      obtain ⟨c0, c1, c2, c3, c4, c5, c6, c7, c8, c9, c10⟩ := hc
      obtain ⟨e0, e1, e2, e3, e4, e5, e6, e7, e8, e9, e10⟩ := hc'
      have k2 : (i : Int) < (N : Int) := by omega
      have k3 : (0 : Int) ≤ (i : Int) := by omega
      clear he H0 H1
      go_upto_region 6 with fail
      go_quiet (fail)
      all_goals go_wp2
      all_goals exact ⟨⟨i + 1, by simp, by omega, Below.drewN HB.out _⟩, by simp [intOf]; omega⟩
    · obtain rfl : i = N := by omega
      go_wp2
      go_ret
      exact ⟨rfl, HB.out⟩
end Go.Proofs.Yteijncfnifebjaa
