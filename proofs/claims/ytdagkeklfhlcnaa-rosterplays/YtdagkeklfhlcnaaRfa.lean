/- The reference's table: New, find, Get, At. -/
import Derived.Test.YtdagkeklfhlcnaaLst
namespace Go.Proofs.Ytdagkeklfhlcnaa
open Go.RowKit
/-- The reference's table lies in block r: the entities l in a row behind it, the next ID nx. -/
def Rf (w : World) (r : Nat) (l : List (List Int)) (nx : Int) : Prop := ∃ v, Blk w r [v, .int .i64 nx] 38 ∧ OwnE w (r + 1) v l
theorem Rf.lt {w : World} {r : Nat} {l : List (List Int)} {nx : Int} (h : Rf w r l nx) : r < w.heap.size := by
  obtain ⟨v, h, _⟩ := h; exact h.lt
theorem Rf.elev {w : World} {r : Nat} {l : List (List Int)} {nx : Int} (h : Rf w r l nx) : Elev l := by
  obtain ⟨v, _, h⟩ := h; exact h.2
theorem Rf.keep {w w' : World} {r : Nat} {l : List (List Int)} {nx : Int} (h : Rf w r l nx) (k : ∀ j, r ≤ j → j < w.heap.size → w'.heap[j]? = w.heap[j]?) : Rf w' r l nx := by
  obtain ⟨v, hb, ho⟩ := h
  refine ⟨v, ?_, ho.keep fun j hj hl => k j (by omega) hl⟩
  have := hb.lt
  unfold Blk at *
  rw [k r (Nat.le_refl _) this]; exact hb
theorem Rf.below {w w' : World} {r : Nat} {l : List (List Int)} {nx : Int} (h : Rf w r l nx) (hb : Below w.heap.size w w') : Rf w' r l nx := h.keep fun j _ hl => hb.block j hl
theorem Only.rf {b r : Nat} {w w' : World} {l : List (List Int)} {nx : Int} (k : Only b w w') (h : Rf w r l nx) (hn : b < r) : Rf w' r l nx := h.keep fun j hj hl => k.block j (by omega) hl
/-- The entity at i of a row, and where its eleven numbers lie. -/
theorem OwnE.nums {w : World} {base : Nat} {p : Option Addr} {N cap : Nat} {es : List (List Int)} (h : OwnE w base (.slice p N cap) es) (i : Nat) (hi : i < N) :
    ∃ g z0 z1 z2 z3 z4 z5 z6 z7 z8 z9 z10, p = some ⟨g, 0, none⟩ ∧ base ≤ g ∧ g < w.heap.size ∧ es.getD i [] = [z0, z1, z2, z3, z4, z5, z6, z7, z8, z9, z10] ∧ ∀ w' : World, w'.heap[g]? = w.heap[g]? → w'.cell? ⟨g, i * 11, none⟩ = some (.int .i64 z0) ∧ w'.cell? ⟨g, i * 11 + 1, none⟩ = some (.int .i64 z1) ∧ w'.cell? ⟨g, i * 11 + 2, none⟩ = some (.int .i64 z2) ∧ w'.cell? ⟨g, i * 11 + 3, none⟩ = some (.int .i64 z3) ∧ w'.cell? ⟨g, i * 11 + 4, none⟩ = some (.int .i64 z4) ∧ w'.cell? ⟨g, i * 11 + 5, none⟩ = some (.int .i64 z5) ∧ w'.cell? ⟨g, i * 11 + 6, none⟩ = some (.int .i64 z6) ∧ w'.cell? ⟨g, i * 11 + 7, none⟩ = some (.int .i64 z7) ∧ w'.cell? ⟨g, i * 11 + 8, none⟩ = some (.int .i64 z8) ∧ w'.cell? ⟨g, i * 11 + 9, none⟩ = some (.int .i64 z9) ∧ w'.cell? ⟨g, i * 11 + 10, none⟩ = some (.int .i64 z10) := by
  obtain ⟨hN, g, rfl, hg, hlt, -, hc⟩ := h.at (by omega)
  have h4 : (es.getD i []).length = 11 := h.2 _ (by rw [List.getD, List.getElem?_eq_getElem (by omega)]; simp)
  obtain ⟨z0, z1, z2, z3, z4, z5, z6, z7, z8, z9, z10, he⟩ := eleven h4
  refine ⟨g, z0, z1, z2, z3, z4, z5, z6, z7, z8, z9, z10, rfl, hg, hlt, he, fun w' hw => ?_⟩
  have hc' : ∀ k, k < 11 → w'.cell? ⟨g, i * 11 + k, none⟩ = some (.int .i64 ((es.getD i []).getD k 0)) := fun k hk => by
    rw [← hc i hi k hk]; simp [World.cell?, hw]
  rw [he] at hc'
  exact ⟨hc' 0 (by omega), hc' 1 (by omega), hc' 2 (by omega), hc' 3 (by omega), hc' 4 (by omega), hc' 5 (by omega), hc' 6 (by omega), hc' 7 (by omega), hc' 8 (by omega), hc' 9 (by omega), hc' 10 (by omega)⟩
/-- What is neither the reference's table's own block nor its row's is as it was. -/
def Rkeep (r : Nat) (w w' : World) : Prop := ∀ (k : Nat) (v n : Value), Blk w r [v, n] 38 → k ≠ r → v.ownBlock ≠ some k → k < w.heap.size → w'.heap[k]? = w.heap[k]?
theorem Rkeep.mk {r : Nat} {w w' : World} {v n : Value} (hb : Blk w r [v, n] 38) (h : ∀ k, k ≠ r → v.ownBlock ≠ some k → k < w.heap.size → w'.heap[k]? = w.heap[k]?) : Rkeep r w w' := fun k v' n' hb' h1 h2 h3 => by
  have := Blk.inj hb hb'
  simp at this
  exact h k h1 (by rw [this.1]; exact h2) h3
theorem zv38 (w : World) : (zeroValue 38).run Try.prog w = .ok (.agg #[.slice none 0 0, .int .i64 0]) w := by kernel_rfl
set_option maxHeartbeats 1000000 in
theorem rnew_any (w : World) : Calls Try.prog 9 #[] w fun e w' => e = .returned (P w.heap.size) ∧ Rf w' w.heap.size [] 1 ∧ Below w.heap.size w w' := by
  unfold P
  go_enter Try.func9, Try.ntmps9
  go_wp2
  go_ret
  exact ⟨rfl, ⟨.slice none 0 0, Blk.new _ _ _, ⟨⟨rfl, Or.inl ⟨rfl, rfl⟩⟩, fun _ h => by cases h⟩⟩, (Below.refl _ _).alloc (Nat.le_refl _) _⟩
set_option maxHeartbeats 2000000 in
theorem rfind_any (r : Nat) (l : List (List Int)) (nx id : Int) (w : World) (h : Rf w r l nx) (hs : l.length ≤ 1000000) : Calls Try.prog 33 #[P r, .int .i64 id] w fun e w' => e = .returned (.int .i64 (fnd l id 0)) ∧ w' = w := by
  obtain ⟨v, hb, ho⟩ := h
  obtain ⟨p, cap, rfl⟩ := ho.form
  have c0 : w.cell? ⟨r, 0, none⟩ = some (.slice p l.length cap) := hb.cell 0
  obtain ⟨N, hN⟩ : ∃ N, N = l.length := ⟨_, rfl⟩
  rw [← hN] at c0 ho hs
  have HN := hid (fun (_ : Nat) => hN)
  have HO := hid ho
  obtain ⟨R, hR⟩ : ∃ R, R = fnd l id 0 := ⟨_, rfl⟩
  rw [← hR]
  have HR := hid (fun (_ : Nat) => hR)
  clear hb ho hN hR
  unfold P
  go_enter Try.func33, Try.ntmps33
  go_wp2_with fail
  go_loopw [5] (fun iv wr => ∃ i : Nat, i ≤ N ∧ iv = .int .i64 (i : Int) ∧ wr = w ∧ Hid (∀ j, j < i → (l.getD j []).getD 0 0 ≠ id)) (fun iv _ => N - (intOf iv).toNat)
  case atStart => exact ⟨0, by omega, rfl, rfl, fun j hj => by omega⟩
  case round =>
    obtain ⟨i, hi, rfl, rfl, HJ⟩ := hrel
    by_cases hl : i < N
    · have hl' : (i : Int) < (N : Int) := by omega
      have hl0 : (0 : Int) ≤ (i : Int) := by omega
      obtain ⟨g, z0, z1, z2, z3, z4, z5, z6, z7, z8, z9, z10, rfl, -, -, he, hc⟩ := HO.out.nums i hl
      have g0 := (hc wr rfl).1
      have HE : Hid ((l.getD i []).getD 0 0 = z0) := by rw [he]; rfl
      clear hc he
      by_cases hz : z0 = id
      · have hz' : (z0 == id) = true := by simpa using hz
        have hR : R = (i : Int) := by
          rw [HR.out 0, fnd_at l id 0 i (by have := HN.out 0; omega) HJ.out (HE.out.trans hz)]
          omega
        subst hR
        clear hz
        go_wp2
        go_ret
        exact ⟨rfl, rfl⟩
      · have hz' : (z0 == id) = false := by simpa using hz
        have HJ2 : Hid (∀ j, j < i + 1 → (l.getD j []).getD 0 0 ≠ id) := fun j hj => by
          rcases Nat.lt_or_ge j i with h1 | h1
          · exact HJ.out j h1
          · obtain rfl : j = i := by omega
            rw [HE.out]; exact hz
        clear hz
        go_wp2
        go_roundw
        case rel => exact ⟨i + 1, by omega, by simp, trivial, HJ2⟩
        case measure => simp [intOf]; omega
    · obtain rfl : i = N := by omega
      have hl' : ((i : Int) < (i : Int)) = False := by simp
      have hR : R = -1 := by rw [HR.out 0]; exact fnd_none l id 0 (fun j hj => HJ.out j (by have := HN.out 0; omega))
      subst hR
      go_wp2
      go_ret
      exact ⟨rfl, rfl⟩
end Go.Proofs.Ytdagkeklfhlcnaa
