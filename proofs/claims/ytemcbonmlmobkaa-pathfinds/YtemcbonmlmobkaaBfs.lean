/- The search from the end: what it holds when it stops. -/
import Derived.Test.YtemcbonmlmobkaaWay
namespace Go.Proofs.Ytemcbonmlmobkaa
abbrev St := List Cl × (Cl → Option Nat)
/-- A neighbour of a cell that is d steps away is met. -/
def visit (m : Mp) (bl : List Cl) (a : Cl) (d : Nat) (s : St) (n : Cl) : St :=
  if (s.2 n).isSome then s else if n == a || pass m bl n then (s.1 ++ [n], fun x => if x = n then some (d + 1) else s.2 x) else s
def round (m : Mp) (bl : List Cl) (a : Cl) (s : St) (c : Cl) : St := (nr m c).foldl (visit m bl a ((s.2 c).getD 0)) s
/-- What holds of the queue and the numbers at all times; no number is above T. -/
structure Sound (m : Mp) (bl : List Cl) (a b : Cl) (T : Nat) (s : St) : Prop where
  nodup : s.1.Nodup
  met : ∀ c, (s.2 c).isSome ↔ c ∈ s.1
  ins : ∀ c ∈ s.1, inn m c = true
  start : s.2 b = some 0
  ways : ∀ c n, s.2 c = some n → wy m bl b n c = true
  kind : ∀ c ∈ s.1, c = b ∨ c = a ∨ pass m bl c = true
  mono : s.1.Pairwise fun x y => (s.2 x).getD 0 ≤ (s.2 y).getD 0
  top : ∀ c ∈ s.1, (s.2 c).getD 0 ≤ T
  place : ∀ (j : Nat) c, s.1[j]? = some c → (s.2 c).getD 0 ≤ j
/-- The state has only grown. -/
def Grew (s s' : St) : Prop := (∃ t, s'.1 = s.1 ++ t) ∧ ∀ c, c ∈ s.1 → s'.2 c = s.2 c
theorem Grew.refl (s : St) : Grew s s := ⟨⟨[], by simp⟩, fun _ _ => rfl⟩
theorem Grew.trans {s t u : St} (h : Grew s t) (h' : Grew t u) : Grew s u := by
  obtain ⟨⟨x, hx⟩, hf⟩ := h
  obtain ⟨⟨y, hy⟩, hg⟩ := h'
  exact ⟨⟨x ++ y, by rw [hy, hx, List.append_assoc]⟩, fun c hc => by rw [hg c (by rw [hx]; simp [hc]), hf c hc]⟩
theorem visit_sound {m : Mp} {bl : List Cl} {a b c n : Cl} {d : Nat} {s : St} (hf : formed m = true) (h : Sound m bl a b (d + 1) s) (hc : s.2 c = some d) (hp : c = b ∨ pass m bl c = true) (hn : n ∈ nr m c) :
    Sound m bl a b (d + 1) (visit m bl a d s n) ∧ Grew s (visit m bl a d s n) ∧ ((n = a ∨ pass m bl n = true) → n ∈ (visit m bl a d s n).1) := by
  have hci : inn m c = true := h.ins c ((h.met c).1 (by rw [hc]; rfl))
  unfold visit
  by_cases h1 : (s.2 n).isSome
  · rw [if_pos h1]
    exact ⟨h, Grew.refl s, fun _ => (h.met n).1 h1⟩
  · rw [if_neg h1]
    have hnq : n ∉ s.1 := fun hq => h1 ((h.met n).2 hq)
    by_cases h2 : (n == a || pass m bl n) = true
    · rw [if_pos h2]
      have hk : n = a ∨ pass m bl n = true := by simpa using h2
      have hne : ∀ x ∈ s.1, x ≠ n := fun x hx he => hnq (he ▸ hx)
      have hbq : b ∈ s.1 := (h.met b).1 (by rw [h.start]; rfl)
      have hcq : c ∈ s.1 := (h.met c).1 (by rw [hc]; rfl)
      have hold : ∀ x ∈ s.1, (if x = n then some (d + 1) else s.2 x) = s.2 x := fun x hx => if_neg (hne x hx)
      refine ⟨⟨?_, ?_, ?_, ?_, ?_, ?_, ?_, ?_, ?_⟩, ⟨⟨[n], rfl⟩, hold⟩, fun _ => by simp⟩
      · simp only
        rw [List.nodup_append]
        refine ⟨h.nodup, by simp, fun x hx y hy => ?_⟩
        simp at hy
        subst hy
        exact hne x hx
      · intro x
        simp only [List.mem_append, List.mem_singleton]
        by_cases hx : x = n
        · simp [hx]
        · rw [if_neg hx, h.met x]; simp [hx]
      · intro x hx
        simp only [List.mem_append, List.mem_singleton] at hx
        rcases hx with hx | rfl
        · exact h.ins x hx
        · exact nr_in hf hn
      · show (if b = n then some (d + 1) else s.2 b) = some 0
        rw [hold b hbq]; exact h.start
      · intro x k hx
        simp only at hx
        by_cases hxn : x = n
        · subst hxn
          rw [if_pos rfl] at hx
          cases hx
          exact wy_succ.2 ⟨c, nr_symm hf hci hn, hp, h.ways c d hc⟩
        · rw [if_neg hxn] at hx
          exact h.ways x k hx
      · intro x hx
        simp only [List.mem_append, List.mem_singleton] at hx
        rcases hx with hx | rfl
        · exact h.kind x hx
        · exact Or.inr hk
      · simp only
        rw [List.pairwise_append]
        refine ⟨h.mono.imp_of_mem fun {x y} hx hy hh => by rw [hold x hx, hold y hy]; exact hh, by simp, fun x hx y hy => ?_⟩
        simp at hy
        subst hy
        rw [hold x hx]
        simpa using h.top x hx
      · intro x hx
        simp only [List.mem_append, List.mem_singleton] at hx ⊢
        rcases hx with hx | rfl
        · rw [hold x hx]; exact h.top x hx
        · simp
      · intro j x hx
        simp only at hx ⊢
        rw [List.getElem?_append] at hx
        split at hx
        · rw [hold x (List.mem_of_getElem? hx)]; exact h.place j x hx
        · rename_i hj
          have : j - s.1.length = 0 := by
            rcases Nat.eq_zero_or_pos (j - s.1.length) with h0 | h0
            · exact h0
            · rw [List.getElem?_eq_none (by simp; omega)] at hx; cases hx
          rw [this] at hx
          simp at hx
          subst hx
          simp
          obtain ⟨i, hi, he⟩ := List.getElem_of_mem hcq
          have := h.place i c (by rw [List.getElem?_eq_getElem hi, he])
          rw [hc] at this
          simp at this
          omega
    · rw [if_neg h2]
      exact ⟨h, Grew.refl s, fun hk => absurd (by simpa using hk) h2⟩
theorem visits_sound {m : Mp} {bl : List Cl} {a b c : Cl} {d : Nat} (hf : formed m = true) (hp : c = b ∨ pass m bl c = true) : ∀ (l : List Cl) {s : St}, (∀ n ∈ l, n ∈ nr m c) → Sound m bl a b (d + 1) s → s.2 c = some d →
    Sound m bl a b (d + 1) (l.foldl (visit m bl a d) s) ∧ Grew s (l.foldl (visit m bl a d) s) ∧ ∀ n ∈ l, (n = a ∨ pass m bl n = true) → n ∈ (l.foldl (visit m bl a d) s).1
  | [], s, _, h, _ => ⟨h, Grew.refl s, fun _ hn => by cases hn⟩
  | n :: l, s, hl, h, hc => by
    obtain ⟨h1, h2, h3⟩ := visit_sound (a := a) hf h hc hp (hl n (by simp))
    have hcq : c ∈ s.1 := (h.met c).1 (by rw [hc]; rfl)
    obtain ⟨k1, k2, k3⟩ := visits_sound hf hp l (fun x hx => hl x (by simp [hx])) h1 (by rw [h2.2 c hcq]; exact hc)
    refine ⟨k1, h2.trans k2, fun x hx hk => ?_⟩
    rcases List.mem_cons.1 hx with rfl | hx
    · obtain ⟨⟨t, ht⟩, _⟩ := k2
      rw [List.foldl_cons, ht]
      simp [h3 hk]
    · exact k3 x hx hk
/-- Behind i rounds. -/
structure Inv (m : Mp) (bl : List Cl) (a b : Cl) (i : Nat) (s : St) : Prop where
  sound : ∃ T, Sound m bl a b T s ∧ ∀ x, s.1[i]? = some x → T ≤ (s.2 x).getD 0 + 1
  le : i ≤ s.1.length
  shut : ∀ (j : Nat) x, j < i → s.1[j]? = some x → x ≠ a ∧ ∀ n ∈ nr m x, (n = a ∨ pass m bl n = true) → n ∈ s.1 ∧ (s.2 n).getD 0 ≤ (s.2 x).getD 0 + 1
theorem Sound.mono_top {m : Mp} {bl : List Cl} {a b : Cl} {T U : Nat} {s : St} (h : Sound m bl a b T s) (hU : ∀ c ∈ s.1, (s.2 c).getD 0 ≤ U) : Sound m bl a b U s :=
  ⟨h.nodup, h.met, h.ins, h.start, h.ways, h.kind, h.mono, hU, h.place⟩
theorem Inv.begin {m : Mp} {bl : List Cl} {a b : Cl} (hb : inn m b = true) : Inv m bl a b 0 ([b], fun x => if x = b then some 0 else none) := by
  refine ⟨⟨0, ⟨by simp, fun c => ?_, fun c hc => ?_, by simp, fun c n h => ?_, fun c hc => ?_, by simp, fun c hc => ?_, fun j c hc => ?_⟩, fun x _ => by omega⟩, by simp, fun j x hj => by omega⟩
  · by_cases h : c = b <;> simp [h]
  · simp at hc; subst hc; exact hb
  · simp only at h
    split at h
    · rename_i he; cases h; exact wy_zero.2 he
    · cases h
  · simp at hc; exact Or.inl hc
  · simp at hc; simp [hc]
  · have : c = b := by
      have := List.mem_of_getElem? hc
      simpa using this
    simp [this]
theorem Inv.next {m : Mp} {bl : List Cl} {a b : Cl} {i : Nat} {s : St} (hf : formed m = true) (h : Inv m bl a b i s) {x : Cl} (hx : s.1[i]? = some x) (ha : x ≠ a) : Inv m bl a b (i + 1) (round m bl a s x) ∧ Grew s (round m bl a s x) := by
  obtain ⟨⟨T, hs, hT⟩, hi, hsh⟩ := h
  have hxq := List.mem_of_getElem? hx
  obtain ⟨d, hd⟩ : ∃ d, s.2 x = some d := Option.isSome_iff_exists.1 ((hs.met x).2 hxq)
  have hT' := hT x hx
  rw [hd] at hT'
  simp at hT'
  have hs' : Sound m bl a b (d + 1) s := hs.mono_top fun c hc => Nat.le_trans (hs.top c hc) hT'
  have hp : x = b ∨ pass m bl x = true := by
    rcases hs.kind x hxq with h | h | h
    · exact Or.inl h
    · exact absurd h ha
    · exact Or.inr h
  unfold round
  rw [hd]
  simp only [Option.getD_some]
  obtain ⟨k1, k2, k3⟩ := visits_sound (a := a) hf hp (nr m x) (fun _ h => h) hs' hd
  generalize (nr m x).foldl (visit m bl a d) s = s' at k1 k2 k3 ⊢
  obtain ⟨⟨t, ht⟩, hg⟩ := k2
  have hlt : i < s.1.length := (List.getElem?_eq_some_iff.1 hx).1
  have hget : ∀ j, j < s.1.length → s'.1[j]? = s.1[j]? := fun j hj => by rw [ht, List.getElem?_append_left hj]
  refine ⟨⟨⟨d + 1, k1, fun y hy => ?_⟩, by rw [ht, List.length_append]; omega, fun j y hj hy => ?_⟩, ⟨⟨t, ht⟩, hg⟩⟩
  · have hxi : s'.1[i]? = some x := by rw [hget i hlt]; exact hx
    have hmono := List.pairwise_iff_getElem.1 k1.mono
    obtain ⟨l1, e1⟩ := List.getElem?_eq_some_iff.1 hxi
    obtain ⟨l2, e2⟩ := List.getElem?_eq_some_iff.1 hy
    have := hmono i (i + 1) l1 l2 (by omega)
    rw [e1, e2, hg x hxq, hd] at this
    simp at this
    omega
  · rw [hget j (by omega)] at hy
    have hyq := List.mem_of_getElem? hy
    rcases Nat.lt_or_ge j i with hji | hji
    · obtain ⟨q1, q2⟩ := hsh j y hji hy
      refine ⟨q1, fun n hn hk => ?_⟩
      obtain ⟨r1, r2⟩ := q2 n hn hk
      exact ⟨by rw [ht]; simp [r1], by rw [hg n r1, hg y hyq]; exact r2⟩
    · obtain rfl : j = i := by omega
      rw [hx] at hy
      cases hy
      refine ⟨ha, fun n hn hk => ?_⟩
      have hnq := k3 n hn hk
      refine ⟨hnq, ?_⟩
      rw [hg x hxq, hd]
      exact k1.top n hnq
theorem short_of_nodup : ∀ (N : Nat) (l : List Nat), l.Nodup → (∀ x ∈ l, x < N) → l.length ≤ N
  | 0, l, _, h => by
    cases l with
    | nil => simp
    | cons x r => exact absurd (h x (by simp)) (by omega)
  | N + 1, l, hn, h => by
    by_cases hN : N ∈ l
    · have := short_of_nodup N (l.erase N) (hn.erase N) (fun x hx => by
        rw [hn.mem_erase_iff] at hx
        have := h x hx.2
        have := hx.1
        omega)
      rw [List.length_erase_of_mem hN] at this
      omega
    · have := short_of_nodup N l hn (fun x hx => by
        have := h x hx
        rcases Nat.lt_or_ge x N with h1 | h1
        · exact h1
        · exact absurd (by rw [show N = x by omega]; exact hx) hN)
      omega
theorem few_cells {m : Mp} (hf : formed m = true) {l : List Cl} (hn : l.Nodup) (hi : ∀ c ∈ l, inn m c = true) : l.length ≤ 400 := by
  obtain ⟨f1, f2, _⟩ := formed_of hf
  have hpl : ∀ c, inn m c = true → 0 ≤ c.2 * m.W + c.1 ∧ c.2 * m.W + c.1 < 400 := fun c hc => by
    have hp := holds_of hc
    have := place_lt f1 f2 hp
    have := (prod_bound f1 f2).2
    omega
  have hinj : ∀ c e : Cl, inn m c = true → inn m e = true → (c.2 * m.W + c.1).toNat = (e.2 * m.W + e.1).toNat → c = e := fun c e hc he h => by
    have p1 := holds_of hc
    have p2 := holds_of he
    have q1 := hpl c hc
    have q2 := hpl e he
    have h' : c.2 * m.W + c.1 = e.2 * m.W + e.1 := by omega
    have m1 : (c.2 * m.W + c.1) % m.W = c.1 := by rw [Int.mul_add_emod_self_right]; exact Int.emod_eq_of_lt p1.1 p1.2.1
    have m2 : (e.2 * m.W + e.1) % m.W = e.1 := by rw [Int.mul_add_emod_self_right]; exact Int.emod_eq_of_lt p2.1 p2.2.1
    have e1 : c.1 = e.1 := by rw [← m1, ← m2, h']
    have e2 : c.2 * m.W = e.2 * m.W := by omega
    have e3 : c.2 = e.2 := Int.eq_of_mul_eq_mul_right (by omega) e2
    exact Prod.ext e1 e3
  have := short_of_nodup 400 (l.map fun c => (c.2 * m.W + c.1).toNat) (by
    rw [List.nodup_iff_pairwise_ne] at hn ⊢
    rw [List.pairwise_map]
    exact hn.imp_of_mem fun {x y} hx hy hne he => hne (hinj x y (hi x hx) (hi y hy) he)) (fun x hx => by
      obtain ⟨c, hc, rfl⟩ := List.mem_map.1 hx
      have := hpl c (hi c hc)
      omega)
  simpa using this
/-- What the numbers say at the end. -/
structure Meas (m : Mp) (bl : List Cl) (a b : Cl) (f : Cl → Option Nat) : Prop where
  none : f a = none → ∀ n, wy m bl b n a = false
  some : ∀ L, f a = some L → ds m bl b L a = true ∧ L ≤ 400 ∧ ∀ n, n < L → ∀ c, f c = some n ↔ (c = b ∨ pass m bl c = true) ∧ ds m bl b n c = true
theorem Inv.few {m : Mp} {bl : List Cl} {a b : Cl} {i : Nat} {s : St} (hf : formed m = true) (h : Inv m bl a b i s) : s.1.length ≤ 400 := by
  obtain ⟨⟨T, hs, _⟩, _, _⟩ := h
  exact few_cells hf hs.nodup hs.ins
theorem Inv.done {m : Mp} {bl : List Cl} {a b : Cl} {i : Nat} {s : St} (hf : formed m = true) (ha : inn m a = true) (hb : inn m b = true) (h : Inv m bl a b i s) (he : ∀ x, s.1[i]? = some x → x = a) : Meas m bl a b s.2 := by
  obtain ⟨⟨T, hs, hT⟩, hi, hsh⟩ := h
  have A : ∀ n c, wy m bl b n c = true → (c = b ∨ c = a ∨ pass m bl c = true) → (∀ L, s.2 a = some L → n ≤ L) → ∃ k, k ≤ n ∧ s.2 c = some k := by
    intro n
    induction n with
    | zero =>
      intro c hw _ _
      rw [wy_zero] at hw
      subst hw
      exact ⟨0, Nat.le_refl _, hs.start⟩
    | succ n ih =>
      intro c hw hk hL
      by_cases hcb : c = b
      · subst hcb
        exact ⟨0, by omega, hs.start⟩
      have hk' : c = a ∨ pass m bl c = true := by
        rcases hk with h | h
        · exact absurd h hcb
        · exact h
      have hci : inn m c = true := by
        rcases hk' with rfl | h
        · exact ha
        · unfold pass at h
          simp only [Bool.and_eq_true] at h
          exact h.1.1
      obtain ⟨x, hx, hp, hwx⟩ := wy_succ.1 hw
      obtain ⟨k, hkn, hfx⟩ := ih x hwx (by rcases hp with h | h; exact Or.inl h; exact Or.inr (Or.inr h)) (fun L h => by have := hL L h; omega)
      have hxq : x ∈ s.1 := (hs.met x).1 (by rw [hfx]; rfl)
      obtain ⟨j, hj, hxj⟩ := List.getElem_of_mem hxq
      rcases Nat.lt_or_ge j i with hji | hji
      · obtain ⟨_, q2⟩ := hsh j x hji (by rw [List.getElem?_eq_getElem hj, hxj])
        obtain ⟨r1, r2⟩ := q2 c (nr_symm hf hci hx) hk'
        obtain ⟨v, hv⟩ := Option.isSome_iff_exists.1 ((hs.met c).2 r1)
        rw [hv, hfx] at r2
        simp at r2
        exact ⟨v, by omega, hv⟩
      · have hil : i < s.1.length := by omega
        have hia := he _ (List.getElem?_eq_getElem hil)
        have haq : a ∈ s.1 := by rw [← hia]; exact List.getElem_mem hil
        obtain ⟨L, hLv⟩ := Option.isSome_iff_exists.1 ((hs.met a).2 haq)
        have hle : (s.2 a).getD 0 ≤ (s.2 x).getD 0 := by
          rcases Nat.lt_or_ge i j with hij | hij
          · have := List.pairwise_iff_getElem.1 hs.mono i j hil hj hij
            rw [hia, hxj] at this; exact this
          · have hEq : i = j := by omega
            subst hEq
            rw [← hxj, hia]; exact Nat.le_refl _
        rw [hLv, hfx] at hle
        simp at hle
        have := hL L hLv
        omega
  have B : ∀ c n, s.2 c = some n → (∀ L, s.2 a = some L → n ≤ L) → ds m bl b n c = true := fun c n hc hL => by
    refine ds_iff.2 ⟨hs.ways c n hc, fun k hk => ?_⟩
    cases hw : wy m bl b k c with
    | false => rfl
    | true =>
      obtain ⟨j, hj, hv⟩ := A k c hw (hs.kind c ((hs.met c).1 (by rw [hc]; rfl))) (fun L h => by have := hL L h; omega)
      rw [hc] at hv
      cases hv
      omega
  refine ⟨fun hn n => ?_, fun L hL => ⟨B a L hL (fun L' h => by rw [hL] at h; cases h; exact Nat.le_refl _), ?_, fun n hn c => ⟨fun hc => ⟨?_, ?_⟩, fun ⟨hp, hd⟩ => ?_⟩⟩⟩
  · cases hw : wy m bl b n a with
    | false => rfl
    | true =>
      obtain ⟨j, _, hv⟩ := A n a hw (Or.inr (Or.inl rfl)) (fun L h => by rw [hn] at h; cases h)
      rw [hn] at hv; cases hv
  · have haq : a ∈ s.1 := (hs.met a).1 (by rw [hL]; rfl)
    obtain ⟨j, hj, hja⟩ := List.getElem_of_mem haq
    have h1 := hs.place j a (by rw [List.getElem?_eq_getElem hj, hja])
    rw [hL] at h1
    have h2 := few_cells hf hs.nodup hs.ins
    simp at h1
    omega
  · rcases hs.kind c ((hs.met c).1 (by rw [hc]; rfl)) with h | h | h
    · exact Or.inl h
    · subst h
      rw [hL] at hc; cases hc; omega
    · exact Or.inr h
  · exact B c n hc (fun L' h => by rw [hL] at h; cases h; omega)
  · obtain ⟨k, hk, hv⟩ := A n c (ds_iff.1 hd).1 (by rcases hp with h | h; exact Or.inl h; exact Or.inr (Or.inr h)) (fun L' h => by rw [hL] at h; cases h; omega)
    have := ds_unique hd (B c k hv (fun L' h => by rw [hL] at h; cases h; omega))
    rw [this]; exact hv
end Go.Proofs.Ytemcbonmlmobkaa
