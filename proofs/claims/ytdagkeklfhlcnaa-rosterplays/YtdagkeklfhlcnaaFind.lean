/- Where an ID stands; Get. -/
import Derived.Test.YtdagkeklfhlcnaaIns
namespace Go.Proofs.Ytdagkeklfhlcnaa
open Go.RowKit
/-- Where the entity with that ID stands, or -1. -/
def fnd : List (List Int) → Int → Int → Int
  | [], _, _ => -1
  | e :: l, id, k => if e.getD 0 0 = id then k else fnd l id (k + 1)
theorem fnd_at : ∀ (l : List (List Int)) (id k : Int) (i : Nat), i < l.length → (∀ j, j < i → (l.getD j []).getD 0 0 ≠ id) → (l.getD i []).getD 0 0 = id → fnd l id k = k + i
  | e :: l, id, k, 0, _, _, h => by
    have h' : e.getD 0 0 = id := h
    rw [fnd, if_pos h']; simp
  | e :: l, id, k, i + 1, hi, hn, h => by
    have h0 : ¬ e.getD 0 0 = id := hn 0 (by omega)
    rw [fnd, if_neg h0, fnd_at l id (k + 1) i (by simpa using hi) (fun j hj => hn (j + 1) (by omega)) h]
    simp; omega
theorem fnd_none : ∀ (l : List (List Int)) (id k : Int), (∀ j, j < l.length → (l.getD j []).getD 0 0 ≠ id) → fnd l id k = -1
  | [], _, _, _ => rfl
  | e :: l, id, k, hn => by
    have h0 : ¬ e.getD 0 0 = id := hn 0 (by simp)
    rw [fnd, if_neg h0]
    exact fnd_none l id (k + 1) (fun j hj => hn (j + 1) (by simpa using hj))
/-- The eleven numbers of an entity, and where they lie. -/
theorem Tb.nums {w : World} {b : Nat} {l : List (List Int)} {past : Int} (h : Tb w b l past) (i : Nat) (hi : i < l.length) :
    ∃ z0 z1 z2 z3 z4 z5 z6 z7 z8 z9 z10, l.getD i [] = [z0, z1, z2, z3, z4, z5, z6, z7, z8, z9, z10] ∧ ∀ w' : World, w'.heap[b]? = w.heap[b]? → w'.cell? ⟨b, i * 11, none⟩ = some (.int .i64 z0) ∧ w'.cell? ⟨b, i * 11 + 1, none⟩ = some (.int .i64 z1) ∧ w'.cell? ⟨b, i * 11 + 2, none⟩ = some (.int .i64 z2) ∧ w'.cell? ⟨b, i * 11 + 3, none⟩ = some (.int .i64 z3) ∧ w'.cell? ⟨b, i * 11 + 4, none⟩ = some (.int .i64 z4) ∧ w'.cell? ⟨b, i * 11 + 5, none⟩ = some (.int .i64 z5) ∧ w'.cell? ⟨b, i * 11 + 6, none⟩ = some (.int .i64 z6) ∧ w'.cell? ⟨b, i * 11 + 7, none⟩ = some (.int .i64 z7) ∧ w'.cell? ⟨b, i * 11 + 8, none⟩ = some (.int .i64 z8) ∧ w'.cell? ⟨b, i * 11 + 9, none⟩ = some (.int .i64 z9) ∧ w'.cell? ⟨b, i * 11 + 10, none⟩ = some (.int .i64 z10) := by
  have h4 : (l.getD i []).length = 11 := h.elev _ (by rw [List.getD, List.getElem?_eq_getElem hi]; simp)
  obtain ⟨z0, z1, z2, z3, z4, z5, z6, z7, z8, z9, z10, he⟩ := eleven h4
  refine ⟨z0, z1, z2, z3, z4, z5, z6, z7, z8, z9, z10, he, fun w' hw => ?_⟩
  have hr := (h.keep hw).range i hi
  rw [he] at hr
  exact ⟨hr 0 _ rfl, hr 1 _ rfl, hr 2 _ rfl, hr 3 _ rfl, hr 4 _ rfl, hr 5 _ rfl, hr 6 _ rfl, hr 7 _ rfl, hr 8 _ rfl, hr 9 _ rfl, hr 10 _ rfl⟩
theorem Below.drewN1 (w : World) (k : Nat) : Below w.heap.size w (w.drewN k) := ⟨rfl, rfl, rfl, Nat.le_refl _, fun _ _ => rfl⟩
set_option maxHeartbeats 1000000 in
theorem findNil_any (id : Int) (w : World) : Calls Try.prog 30 #[.pointer none, .int .i64 id] w fun r w' => r = .returned (.int .i64 (-1)) ∧ w' = w := by
  have h29 := hid allNil_any
  go_enter Try.func30, Try.ntmps30
  go_wp2_with fail
  refine Calls.mono (h29.out _) ?_
  rintro e w1 ⟨rfl, rfl⟩
  go_wp2_with fail
  go_loopw [10] (fun iv wr => iv = .int .i64 0 ∧ wr = w1) (fun _ _ => 0)
  case atStart => exact ⟨rfl, rfl⟩
  case round =>
    obtain ⟨rfl, rfl⟩ := hrel
    go_wp2
    go_ret
    exact ⟨rfl, rfl⟩
set_option maxHeartbeats 2000000 in
theorem find_any (b : Nat) (l : List (List Int)) (past id : Int) (w : World) (h : Tb w b l past) : Calls Try.prog 30 #[P b, .int .i64 id] w fun r w' => Out w (.int .i64 (fnd l id 0)) r w' := by
  have h29 : Hid (∀ W, Tb W b l past → Calls Try.prog 29 #[P b] W fun e w' => e = .returned (.slice (some ⟨b, 0, none⟩) l.length 40) ∧ ∃ k, w' = W.drewN k) := fun W h => all_any b l past W h
  have HT := hid h
  have HLT := hid h.lt
  have hn := h.few
  obtain ⟨N, hN⟩ : ∃ N, N = l.length := ⟨_, rfl⟩
  have HN := hid (fun (_ : Nat) => hN)
  rw [← hN] at h29 hn
  unfold Out
  obtain ⟨R, hR⟩ : ∃ R, R = fnd l id 0 := ⟨_, rfl⟩
  rw [← hR]
  have HR := hid (fun (_ : Nat) => hR)
  clear h hN hR
  unfold P at *
  go_enter Try.func30, Try.ntmps30
  go_wp2_with fail
  refine Calls.mono (h29.out _ HT.out) ?_
  rintro e w1 ⟨rfl, k, hw1⟩
  have HB1 : Hid (Below w.heap.size w w1) := by rw [hw1]; exact Below.drewN1 w k
  clear hw1 h29
  go_wp2_with fail
  go_loopw [10] (fun iv wr => ∃ i : Nat, i ≤ N ∧ iv = .int .i64 (i : Int) ∧ Hid (Below w.heap.size w wr) ∧ Hid (∀ j, j < i → (l.getD j []).getD 0 0 ≠ id)) (fun iv _ => N - (intOf iv).toNat)
  case atStart => exact ⟨0, by omega, rfl, HB1, fun j hj => by omega⟩
  case round =>
    clear HB1
    obtain ⟨i, hi, rfl, HB1, HJ⟩ := hrel
    by_cases hl : i < N
    · have hl' : (i : Int) < (N : Int) := by omega
      have hl0 : (0 : Int) ≤ (i : Int) := by omega
      obtain ⟨z0, z1, z2, z3, z4, z5, z6, z7, z8, z9, z10, he, hc⟩ := HT.out.nums i (by have := HN.out 0; omega)
      obtain ⟨c0, c1, c2, c3, c4, c5, c6, c7, c8, c9, c10⟩ := hc wr (HB1.out.block b HLT.out)
      have HE : Hid ((l.getD i []).getD 0 0 = z0) := by rw [he]; rfl
      clear hc he
      by_cases hz : z0 = id
      · have hz' : (z0 == id) = true := by simpa using hz
        have hR : R = (i : Int) := by
          rw [HR.out 0, fnd_at l id 0 i (by have := HN.out 0; omega) HJ.out (HE.out.trans hz)]
          omega
        subst hR
        clear hz
        go_wp2
        go_ret
        exact ⟨rfl, HB1.out.alloc HB1.out.size _⟩
      · have hz' : (z0 == id) = false := by simpa using hz
        have HJ2 : Hid (∀ j, j < i + 1 → (l.getD j []).getD 0 0 ≠ id) := fun j hj => by
          rcases Nat.lt_or_ge j i with h1 | h1
          · exact HJ.out j h1
          · obtain rfl : j = i := by omega
            rw [HE.out]; exact hz
        clear hz
        go_wp2
        go_roundw
        case rel => exact ⟨i + 1, by omega, by simp, hid (HB1.out.alloc HB1.out.size _), HJ2⟩
        case measure => simp [intOf]; omega
    · obtain rfl : i = N := by omega
      have hl' : ((i : Int) < (i : Int)) = False := by simp
      have hR : R = -1 := by rw [HR.out 0]; exact fnd_none l id 0 (fun j hj => HJ.out j (by have := HN.out 0; omega))
      subst hR
      go_wp2
      go_ret
      exact ⟨rfl, HB1.out⟩
end Go.Proofs.Ytdagkeklfhlcnaa
