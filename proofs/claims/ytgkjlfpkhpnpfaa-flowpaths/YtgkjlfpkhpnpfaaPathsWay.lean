/- A field of one goal and the ways to it. -/
import Derived.Test.YtgkjlfpkhpnpfaaFacts
import Derived.Test.YtgkjlfpkhpnpfaaBackWay
import Derived.Test.YtgkjlfpkhpnpfaaFind
namespace Go.Proofs.Ytgkjlfpkhpnpfaa
open Go.RowKit
theorem one_contains (b c : Cl) : ([b] : List Cl).contains c = (c == b) := by
  rw [Bool.eq_iff_iff]
  simp
theorem opn_one (m : Mp) (bl : List Cl) (b c : Cl) : opn m bl [b] c = (c == b || pass m bl c) := by
  unfold opn
  rw [one_contains]
theorem wyG_one (m : Mp) (bl : List Cl) (b : Cl) : ∀ (n : Nat) (c : Cl), wyG m bl [b] n c = wy m bl b n c
  | 0, c => by rw [wyG, wy, one_contains]
  | n + 1, c => by
    unfold wyG wy
    congr 1
    funext x
    rw [opn_one, wyG_one m bl b n x]
theorem field_ds {m : Mp} {bl : List Cl} {b : Cl} {f : Cl → Option Nat} (h : Field m bl [b] f) {c : Cl} (hc : inn m c = true) (n : Nat) : f c = some n ↔ ds m bl b n c = true := by
  rw [ds_iff]
  constructor
  · intro hn
    refine ⟨by rw [← wyG_one]; exact h.ways c n hn, fun k hk => ?_⟩
    cases hw : wy m bl b k c with
    | false => rfl
    | true =>
      obtain ⟨j, hj, hf⟩ := h.least c k hc (by rw [wyG_one]; exact hw)
      rw [hn] at hf
      cases hf
      omega
  · rintro ⟨hw, hl⟩
    obtain ⟨k, hk, hf⟩ := h.least c n hc (by rw [wyG_one]; exact hw)
    rcases Nat.lt_or_ge k n with h1 | h1
    · have := h.ways c k hf
      rw [wyG_one, hl k h1] at this
      cases this
    · rw [hf, show k = n by omega]
theorem find_congr {p q : Cl → Bool} : ∀ {l : List Cl}, (∀ x ∈ l, p x = q x) → l.find? p = l.find? q
  | [], _ => rfl
  | x :: l, h => by
    have hx := h x (by simp)
    have ih := find_congr (l := l) fun y hy => h y (by simp [hy])
    rw [List.find?_cons, List.find?_cons, hx, ih]
/-- What Find answers, by the field's number. -/
theorem paths_facts {m : Mp} {bl : List Cl} {b : Cl} {f : Cl → Option Nat} (hf : formed m = true) (hb : inn m b = true) (h : Field m bl [b] f) {c : Cl} (hc : inn m c = true) :
    (f c = none → findV m bl c b 1000 = ([], 3)) ∧ (∀ n, f c = some n → ∃ l, findV m bl c b 1000 = (l, 0) ∧ l.length = n ∧ ∀ x, nextV m bl [b] f c = some x → 0 < n ∧ l.getD 0 (0, 0) = x) := by
  have hab : (inn m c && inn m b) = true := by rw [hc, hb]; rfl
  constructor
  · intro hn
    refine findV_none hf hab fun n => ?_
    cases hw : wy m bl b n c with
    | false => rfl
    | true =>
      obtain ⟨k, _, hk⟩ := h.least c n hc (by rw [wyG_one]; exact hw)
      rw [hn] at hk; cases hk
  · intro n hn
    have hd := (field_ds h hc n).1 hn
    have h4 := h.few c n hn
    refine ⟨way m bl b n c, ?_, way_length hd, fun x hx => ?_⟩
    · rw [findV_some hf hab hd h4, if_neg (by omega)]
    · cases n with
      | zero =>
        unfold nextV at hx
        rw [hn] at hx
        cases hx
      | succ d =>
        refine ⟨by omega, ?_⟩
        unfold nextV at hx
        rw [hn] at hx
        have hx' : (nr m c).find? (fun n => f n == some d && opn m bl [b] n) = some x := hx
        have e : (nr m c).find? (fun x => (x == b || pass m bl x) && ds m bl b d x) = some x := by
          rw [← hx']
          refine find_congr fun y hy => ?_
          rw [opn_one, Bool.and_comm]
          congr 1
          rw [Bool.eq_iff_iff, ← field_ds h (nr_in hf hy) d, beq_iff_eq]
        unfold way
        rw [e]
        rfl
/-- The cell of a place. -/
theorem inn_at {m : Mp} (hf : formed m = true) {i : Nat} (hi : (i : Int) < m.W * m.H) : inn m ((i : Int) % m.W, (i : Int) / m.W) = true := by
  obtain ⟨f1, f2, -⟩ := formed_of hf
  have h0 : 0 ≤ (i : Int) := by omega
  have h1 := Int.emod_nonneg (i : Int) (show m.W ≠ 0 by omega)
  have h2 := Int.emod_lt_of_pos (i : Int) (show 0 < m.W by omega)
  have h3 : 0 ≤ (i : Int) / m.W := Int.ediv_nonneg h0 (by omega)
  have h4 : (i : Int) / m.W < m.H := Int.ediv_lt_of_lt_mul (by omega) (by rw [Int.mul_comm]; exact hi)
  unfold inn holds
  simp only [Bool.and_eq_true, decide_eq_true_eq]
  omega
end Go.Proofs.Ytgkjlfpkhpnpfaa
