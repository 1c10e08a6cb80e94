/- Ways to any of some goals, and what the search from all of them holds. -/
import Derived.Test.YtgkjlfpkhpnpfaaBfs
namespace Go.Proofs.Ytgkjlfpkhpnpfaa
/-- May it be come to? -/
def opn (m : Mp) (bl gs : List Cl) (c : Cl) : Bool := gs.contains c || pass m bl c
/-- Is there a way of n steps from c to a goal? -/
def wyG (m : Mp) (bl gs : List Cl) : Nat → Cl → Bool
  | 0, c => gs.contains c
  | n + 1, c => (nr m c).any fun x => opn m bl gs x && wyG m bl gs n x
/-- The numbers that a field holds. -/
structure Field (m : Mp) (bl gs : List Cl) (f : Cl → Option Nat) : Prop where
  ins : ∀ c n, f c = some n → inn m c = true
  ways : ∀ c n, f c = some n → wyG m bl gs n c = true
  least : ∀ c n, inn m c = true → wyG m bl gs n c = true → ∃ k, k ≤ n ∧ f c = some k
  few : ∀ c n, f c = some n → n ≤ 400
theorem wyG_zero {m : Mp} {bl gs : List Cl} {c : Cl} : wyG m bl gs 0 c = true ↔ c ∈ gs := by rw [wyG, List.contains_iff_mem]
theorem wyG_succ {m : Mp} {bl gs : List Cl} {c : Cl} {n : Nat} : wyG m bl gs (n + 1) c = true ↔ ∃ x, x ∈ nr m c ∧ opn m bl gs x = true ∧ wyG m bl gs n x = true := by
  rw [wyG, List.any_eq_true]
  constructor
  · rintro ⟨x, hx, h⟩
    rw [Bool.and_eq_true] at h
    exact ⟨x, hx, h.1, h.2⟩
  · rintro ⟨x, hx, h, hw⟩
    exact ⟨x, hx, by rw [Bool.and_eq_true]; exact ⟨h, hw⟩⟩
/-- A neighbour is met: it gets its number, if it has none. -/
def visitG (d : Nat) (s : St) (n : Cl) : St := if (s.2 n).isSome then s else (s.1 ++ [n], fun x => if x = n then some d else s.2 x)
def roundG (m : Mp) (bl gs : List Cl) (s : St) (c : Cl) : St := if opn m bl gs c then (nr m c).foldl (visitG ((s.2 c).getD 0 + 1)) s else s
structure SoundG (m : Mp) (bl gs : List Cl) (T : Nat) (s : St) : Prop where
  nodup : s.1.Nodup
  met : ∀ c, (s.2 c).isSome ↔ c ∈ s.1
  ins : ∀ c ∈ s.1, inn m c = true
  ways : ∀ c n, s.2 c = some n → wyG m bl gs n c = true
  mono : s.1.Pairwise fun x y => (s.2 x).getD 0 ≤ (s.2 y).getD 0
  top : ∀ c ∈ s.1, (s.2 c).getD 0 ≤ T
  place : ∀ (j : Nat) c, s.1[j]? = some c → (s.2 c).getD 0 ≤ j
/-- One cell more behind the queue, with a number as great as any. -/
theorem SoundG.push {m : Mp} {bl gs : List Cl} {T : Nat} {s : St} (h : SoundG m bl gs T s) {n : Cl} (hn : (s.2 n).isSome = false) (hi : inn m n = true) (hw : wyG m bl gs T n = true) (hT : T ≤ s.1.length) : SoundG m bl gs T (s.1 ++ [n], fun x => if x = n then some T else s.2 x) ∧ Grew s (s.1 ++ [n], fun x => if x = n then some T else s.2 x) := by
  have hnq : n ∉ s.1 := fun hq => by have := (h.met n).2 hq; rw [hn] at this; cases this
  have hne : ∀ x ∈ s.1, x ≠ n := fun x hx he => hnq (he ▸ hx)
  have hold : ∀ x ∈ s.1, (if x = n then some T else s.2 x) = s.2 x := fun x hx => if_neg (hne x hx)
  refine ⟨⟨?_, ?_, ?_, ?_, ?_, ?_, ?_⟩, ⟨⟨[n], rfl⟩, hold⟩⟩
  · simp only
    rw [List.nodup_append]
    refine ⟨h.nodup, by simp, fun x hx y hy => ?_⟩
    simp at hy
    subst hy
    exact hne x hx
  · intro x
    simp only [List.mem_append, List.mem_singleton]
    by_cases hx : x = n
    · simp [hx]
    · rw [if_neg hx, h.met x]; simp [hx]
  · intro x hx
    simp only [List.mem_append, List.mem_singleton] at hx
    rcases hx with hx | rfl
    · exact h.ins x hx
    · exact hi
  · intro x k hx
    simp only at hx
    by_cases hxn : x = n
    · subst hxn
      rw [if_pos rfl] at hx
      cases hx
      exact hw
    · rw [if_neg hxn] at hx
      exact h.ways x k hx
  · simp only
    rw [List.pairwise_append]
    refine ⟨h.mono.imp_of_mem fun {x y} hx hy hh => by rw [hold x hx, hold y hy]; exact hh, by simp, fun x hx y hy => ?_⟩
    simp at hy
    subst hy
    rw [hold x hx]
    simpa using h.top x hx
  · intro x hx
    simp only [List.mem_append, List.mem_singleton] at hx ⊢
    rcases hx with hx | rfl
    · rw [hold x hx]; exact h.top x hx
    · simp
  · intro j x hx
    simp only at hx ⊢
    rw [List.getElem?_append] at hx
    split at hx
    · rw [hold x (List.mem_of_getElem? hx)]; exact h.place j x hx
    · rename_i hj
      have : j - s.1.length = 0 := by
        rcases Nat.eq_zero_or_pos (j - s.1.length) with h0 | h0
        · exact h0
        · rw [List.getElem?_eq_none (by simp; omega)] at hx; cases hx
      rw [this] at hx
      simp at hx
      subst hx
      simp
      omega
theorem visitG_sound {m : Mp} {bl gs : List Cl} {c n : Cl} {d : Nat} {s : St} (hf : formed m = true) (h : SoundG m bl gs (d + 1) s) (hc : s.2 c = some d) (hp : opn m bl gs c = true) (hn : n ∈ nr m c) :
    SoundG m bl gs (d + 1) (visitG (d + 1) s n) ∧ Grew s (visitG (d + 1) s n) ∧ n ∈ (visitG (d + 1) s n).1 := by
  have hcq : c ∈ s.1 := (h.met c).1 (by rw [hc]; rfl)
  have hci : inn m c = true := h.ins c hcq
  unfold visitG
  by_cases h1 : (s.2 n).isSome
  · rw [if_pos h1]
    exact ⟨h, Grew.refl s, (h.met n).1 h1⟩
  · rw [if_neg h1]
    obtain ⟨i, hi, he⟩ := List.getElem_of_mem hcq
    have hpl := h.place i c (by rw [List.getElem?_eq_getElem hi, he])
    rw [hc] at hpl
    simp at hpl
    obtain ⟨k1, k2⟩ := h.push (n := n) (by simpa using h1) (nr_in hf hn) (wyG_succ.2 ⟨c, nr_symm hf hci hn, hp, h.ways c d hc⟩) (by omega)
    exact ⟨k1, k2, by simp⟩
theorem visitsG_sound {m : Mp} {bl gs : List Cl} {c : Cl} {d : Nat} (hf : formed m = true) (hp : opn m bl gs c = true) : ∀ (l : List Cl) {s : St}, (∀ n ∈ l, n ∈ nr m c) → SoundG m bl gs (d + 1) s → s.2 c = some d →
    SoundG m bl gs (d + 1) (l.foldl (visitG (d + 1)) s) ∧ Grew s (l.foldl (visitG (d + 1)) s) ∧ ∀ n ∈ l, n ∈ (l.foldl (visitG (d + 1)) s).1
  | [], s, _, h, _ => ⟨h, Grew.refl s, fun _ hn => by cases hn⟩
  | n :: l, s, hl, h, hc => by
    obtain ⟨h1, h2, h3⟩ := visitG_sound hf h hc hp (hl n (by simp))
    have hcq : c ∈ s.1 := (h.met c).1 (by rw [hc]; rfl)
    obtain ⟨k1, k2, k3⟩ := visitsG_sound hf hp l (fun x hx => hl x (by simp [hx])) h1 (by rw [h2.2 c hcq]; exact hc)
    refine ⟨k1, h2.trans k2, fun x hx => ?_⟩
    rcases List.mem_cons.1 hx with rfl | hx
    · obtain ⟨⟨t, ht⟩, _⟩ := k2
      rw [List.foldl_cons, ht]
      simp [h3]
    · exact k3 x hx
/-- The state behind the first k goals. -/
def begG (gs : List Cl) (k : Nat) : St := (gs.take k).foldl (visitG 0) ([], fun _ => none)
theorem begG_next {gs : List Cl} {k : Nat} (hk : k < gs.length) : begG gs (k + 1) = visitG 0 (begG gs k) (gs.getD k (0, 0)) := by
  unfold begG
  have e : gs.take (k + 1) = gs.take k ++ [gs.getD k (0, 0)] := by
    rw [List.take_add_one, List.getD_eq_getElem?_getD, List.getElem?_eq_getElem hk]; rfl
  rw [e, List.foldl_append]; rfl
theorem begG_sound {m : Mp} {bl gs : List Cl} (hi : ∀ c ∈ gs, inn m c = true) : ∀ (l : List Cl) {s : St}, (∀ c ∈ l, c ∈ gs) → SoundG m bl gs 0 s → (SoundG m bl gs 0 (l.foldl (visitG 0) s) ∧ (∀ c, (s.2 c).isSome → ((l.foldl (visitG 0) s).2 c).isSome) ∧ ∀ c ∈ l, ((l.foldl (visitG 0) s).2 c).isSome)
  | [], s, _, h => ⟨h, fun _ h => h, fun _ hn => by cases hn⟩
  | n :: l, s, hl, h => by
    have key : SoundG m bl gs 0 (visitG 0 s n) ∧ (∀ c, (s.2 c).isSome → ((visitG 0 s n).2 c).isSome) ∧ ((visitG 0 s n).2 n).isSome := by
      unfold visitG
      by_cases h1 : (s.2 n).isSome
      · rw [if_pos h1]; exact ⟨h, fun _ h => h, h1⟩
      · rw [if_neg h1]
        obtain ⟨k1, k2⟩ := h.push (n := n) (by simpa using h1) (hi n (hl n (by simp))) (wyG_zero.2 (hl n (by simp))) (Nat.zero_le _)
        refine ⟨k1, fun c hc => ?_, by simp⟩
        rw [k2.2 c ((h.met c).1 hc)]; exact hc
    obtain ⟨k1, k2, k3⟩ := begG_sound hi l (fun x hx => hl x (by simp [hx])) key.1
    refine ⟨k1, fun c hc => k2 c (key.2.1 c hc), fun c hc => ?_⟩
    rcases List.mem_cons.1 hc with rfl | hc
    · exact k2 c key.2.2
    · exact k3 c hc
/-- Behind i rounds. -/
structure InvG (m : Mp) (bl gs : List Cl) (i : Nat) (s : St) : Prop where
  sound : ∃ T, SoundG m bl gs T s ∧ ∀ x, s.1[i]? = some x → T ≤ (s.2 x).getD 0 + 1
  le : i ≤ s.1.length
  goals : ∀ c ∈ gs, s.2 c = some 0
  shut : ∀ (j : Nat) x, j < i → s.1[j]? = some x → opn m bl gs x = true → ∀ n ∈ nr m x, n ∈ s.1 ∧ (s.2 n).getD 0 ≤ (s.2 x).getD 0 + 1
theorem SoundG.mono_top {m : Mp} {bl gs : List Cl} {T U : Nat} {s : St} (h : SoundG m bl gs T s) (hU : ∀ c ∈ s.1, (s.2 c).getD 0 ≤ U) : SoundG m bl gs U s :=
  ⟨h.nodup, h.met, h.ins, h.ways, h.mono, hU, h.place⟩
theorem InvG.begin {m : Mp} {bl gs : List Cl} (hi : ∀ c ∈ gs, inn m c = true) : InvG m bl gs 0 (begG gs gs.length) := by
  have h0 : SoundG m bl gs 0 (([], fun _ => none) : St) := ⟨by simp, by simp, by simp, fun c n h => (by cases h), by simp, by simp, fun j c hc => (by simp at hc)⟩
  obtain ⟨k1, -, k3⟩ := begG_sound hi gs (fun _ h => h) h0
  have e : begG gs gs.length = gs.foldl (visitG 0) ([], fun _ => none) := by unfold begG; rw [List.take_length]
  rw [e]
  refine ⟨⟨0, k1, fun _ _ => by omega⟩, Nat.zero_le _, fun c hc => ?_, fun j x hj => by omega⟩
  obtain ⟨v, hv⟩ := Option.isSome_iff_exists.1 (k3 c hc)
  have := k1.top c ((k1.met c).1 (by rw [hv]; rfl))
  rw [hv] at this ⊢
  simp at this
  rw [this]
theorem InvG.next {m : Mp} {bl gs : List Cl} {i : Nat} {s : St} (hf : formed m = true) (h : InvG m bl gs i s) {x : Cl} (hx : s.1[i]? = some x) : InvG m bl gs (i + 1) (roundG m bl gs s x) ∧ Grew s (roundG m bl gs s x) := by
  obtain ⟨⟨T, hs, hT⟩, hi, hg0, hsh⟩ := h
  have hxq := List.mem_of_getElem? hx
  obtain ⟨d, hd⟩ : ∃ d, s.2 x = some d := Option.isSome_iff_exists.1 ((hs.met x).2 hxq)
  have hT' := hT x hx
  rw [hd] at hT'
  simp at hT'
  have hs' : SoundG m bl gs (d + 1) s := hs.mono_top fun c hc => Nat.le_trans (hs.top c hc) hT'
  have hlt : i < s.1.length := (List.getElem?_eq_some_iff.1 hx).1
  have key : ∀ s' : St, SoundG m bl gs (d + 1) s' → Grew s s' → (opn m bl gs x = true → ∀ n ∈ nr m x, n ∈ s'.1) → InvG m bl gs (i + 1) s' ∧ Grew s s' := by
    intro s' k1 k2 k3
    obtain ⟨⟨t, ht⟩, hg⟩ := k2
    have hget : ∀ j, j < s.1.length → s'.1[j]? = s.1[j]? := fun j hj => by rw [ht, List.getElem?_append_left hj]
    refine ⟨⟨⟨d + 1, k1, fun y hy => ?_⟩, by rw [ht, List.length_append]; omega, fun c hc => by rw [hg c ((hs.met c).1 (by rw [hg0 c hc]; rfl)), hg0 c hc], fun j y hj hy => ?_⟩, ⟨⟨t, ht⟩, hg⟩⟩
    · have hxi : s'.1[i]? = some x := by rw [hget i hlt]; exact hx
      have hmono := List.pairwise_iff_getElem.1 k1.mono
      obtain ⟨l1, e1⟩ := List.getElem?_eq_some_iff.1 hxi
      obtain ⟨l2, e2⟩ := List.getElem?_eq_some_iff.1 hy
      have := hmono i (i + 1) l1 l2 (by omega)
      rw [e1, e2, hg x hxq, hd] at this
      simp at this
      omega
    · rw [hget j (by omega)] at hy
      have hyq := List.mem_of_getElem? hy
      rcases Nat.lt_or_ge j i with hji | hji
      · intro hk n hn
        obtain ⟨r1, r2⟩ := hsh j y hji hy hk n hn
        exact ⟨by rw [ht]; simp [r1], by rw [hg n r1, hg y hyq]; exact r2⟩
      · obtain rfl : j = i := by omega
        rw [hx] at hy
        cases hy
        intro hk n hn
        have hnq := k3 hk n hn
        refine ⟨hnq, ?_⟩
        rw [hg x hxq, hd]
        exact k1.top n hnq
  unfold roundG
  by_cases ho : opn m bl gs x = true
  · rw [if_pos ho, hd]
    simp only [Option.getD_some]
    obtain ⟨k1, k2, k3⟩ := visitsG_sound hf ho (nr m x) (fun _ h => h) hs' hd
    exact key _ k1 k2 fun _ => k3
  · rw [if_neg ho]
    exact key s hs' (Grew.refl s) fun h => absurd h ho
theorem InvG.few {m : Mp} {bl gs : List Cl} {i : Nat} {s : St} (hf : formed m = true) (h : InvG m bl gs i s) : s.1.length ≤ 400 := by
  obtain ⟨⟨T, hs, _⟩, _, _, _⟩ := h
  exact few_cells hf hs.nodup hs.ins
theorem InvG.done {m : Mp} {bl gs : List Cl} {i : Nat} {s : St} (hf : formed m = true) (h : InvG m bl gs i s) (he : s.1.length ≤ i) : Field m bl gs s.2 := by
  have hfew := h.few hf
  obtain ⟨⟨T, hs, hT⟩, hi, hg, hsh⟩ := h
  have hq : ∀ c n, s.2 c = some n → c ∈ s.1 := fun c n h => (hs.met c).1 (by rw [h]; rfl)
  refine ⟨fun c n h => hs.ins c (hq c n h), hs.ways, ?_, fun c n h => ?_⟩
  · intro c n
    induction n generalizing c with
    | zero => exact fun _ hw => ⟨0, Nat.le_refl _, hg c (wyG_zero.1 hw)⟩
    | succ n ih =>
      intro hc hw
      obtain ⟨x, hx, ho, hwx⟩ := wyG_succ.1 hw
      obtain ⟨k, hk, hfx⟩ := ih x (nr_in hf hx) hwx
      obtain ⟨j, hj, hxj⟩ := List.getElem_of_mem (hq x k hfx)
      obtain ⟨r1, r2⟩ := hsh j x (by omega) (by rw [List.getElem?_eq_getElem hj, hxj]) ho c (nr_symm hf hc hx)
      obtain ⟨v, hv⟩ := Option.isSome_iff_exists.1 ((hs.met c).2 r1)
      rw [hv, hfx] at r2
      simp at r2
      exact ⟨v, by omega, hv⟩
  · obtain ⟨j, hj, hcj⟩ := List.getElem_of_mem (hq c n h)
    have := hs.place j c (by rw [List.getElem?_eq_getElem hj, hcj])
    rw [h] at this
    simp at this
    omega
theorem InvG.at {m : Mp} {bl gs : List Cl} {i : Nat} {s : St} (h : InvG m bl gs i s) {x : Cl} (hx : s.1[i]? = some x) : ∃ d, s.2 x = some d ∧ d ≤ i := by
  obtain ⟨⟨T, hs, _⟩, _, _, _⟩ := h
  obtain ⟨d, hd⟩ := Option.isSome_iff_exists.1 ((hs.met x).2 (List.mem_of_getElem? hx))
  have := hs.place i x hx
  rw [hd] at this
  exact ⟨d, hd, this⟩
/-- The cell to step to: the first neighbour that is one step closer and may be come to. -/
def nextV (m : Mp) (bl gs : List Cl) (f : Cl → Option Nat) (c : Cl) : Option Cl := match f c with
  | none => none
  | some 0 => none
  | some (d + 1) => (nr m c).find? fun n => f n == some d && opn m bl gs n
theorem Field.unique {m : Mp} {bl gs : List Cl} {f g : Cl → Option Nat} (h : Field m bl gs f) (h' : Field m bl gs g) : f = g := by
  have key : ∀ {f g : Cl → Option Nat}, Field m bl gs f → Field m bl gs g → ∀ c n, f c = some n → ∃ k, k ≤ n ∧ g c = some k := fun h h' c n hc => h'.least c n (h.ins c n hc) (h.ways c n hc)
  funext c
  cases hc : f c with
  | none => cases hg : g c with
    | none => rfl
    | some k => obtain ⟨j, _, hj⟩ := key h' h c k hg; rw [hc] at hj; cases hj
  | some n =>
    obtain ⟨k, hk, hg⟩ := key h h' c n hc
    obtain ⟨j, hj, hf⟩ := key h' h c k hg
    rw [hc] at hf
    cases hf
    rw [hg, show n = k by omega]
/-- A goal more, or a blocked cell less, makes no way longer. -/
theorem wyG_more {m : Mp} {bl bl' gs gs' : List Cl} (hg : ∀ c, c ∈ gs → c ∈ gs') (hb : ∀ c, c ∈ bl' → c ∈ bl) : ∀ n c, wyG m bl gs n c = true → wyG m bl' gs' n c = true
  | 0, c, h => wyG_zero.2 (hg c (wyG_zero.1 h))
  | n + 1, c, h => by
    obtain ⟨x, hx, ho, hw⟩ := wyG_succ.1 h
    refine wyG_succ.2 ⟨x, hx, ?_, wyG_more hg hb n x hw⟩
    unfold opn pass at ho ⊢
    simp only [Bool.or_eq_true, Bool.and_eq_true, Bool.not_eq_true', List.contains_eq_mem, decide_eq_true_eq, decide_eq_false_iff_not] at ho ⊢
    rcases ho with h | h
    · exact Or.inl (hg x h)
    · exact Or.inr ⟨h.1, fun hx => h.2 (hb x hx)⟩
theorem Field.more {m : Mp} {bl bl' gs gs' : List Cl} {f g : Cl → Option Nat} (h : Field m bl gs f) (h' : Field m bl' gs' g) (hg : ∀ c, c ∈ gs → c ∈ gs') (hb : ∀ c, c ∈ bl' → c ∈ bl) {c : Cl} {n : Nat} (hc : f c = some n) : ∃ k, k ≤ n ∧ g c = some k :=
  h'.least c n (h.ins c n hc) (wyG_more hg hb n c (h.ways c n hc))
/-- The next cell is there just where it is asked for. -/
theorem Field.next {m : Mp} {bl gs : List Cl} {f : Cl → Option Nat} (hf : formed m = true) (h : Field m bl gs f) {c : Cl} {d : Nat} (hc : f c = some (d + 1)) : ∃ x, nextV m bl gs f c = some x ∧ x ∈ nr m c ∧ opn m bl gs x = true ∧ f x = some d := by
  obtain ⟨x, hx, ho, hw⟩ := wyG_succ.1 (h.ways c _ hc)
  obtain ⟨k, hk, hfx⟩ := h.least x d (nr_in hf hx) hw
  have hkd : k = d := by
    obtain ⟨j, hj, hcj⟩ := h.least c (k + 1) (h.ins c _ hc) (wyG_succ.2 ⟨x, hx, ho, h.ways x k hfx⟩)
    rw [hc] at hcj
    cases hcj
    omega
  subst hkd
  have e : nextV m bl gs f c = (nr m c).find? fun n => f n == some k && opn m bl gs n := by unfold nextV; rw [hc]
  rw [e]
  cases hz : (nr m c).find? fun n => f n == some k && opn m bl gs n with
  | none =>
    rw [List.find?_eq_none] at hz
    exact absurd (by rw [hfx, ho]; simp) (hz x hx)
  | some y =>
    have h1 := List.find?_some hz
    simp only [Bool.and_eq_true, beq_iff_eq] at h1
    exact ⟨y, rfl, List.mem_of_find?_eq_some hz, h1.2, h1.1⟩
theorem Field.zero {m : Mp} {bl gs : List Cl} {f : Cl → Option Nat} (h : Field m bl gs f) {c : Cl} : f c = some 0 ↔ c ∈ gs ∧ inn m c = true := by
  constructor
  · exact fun hc => ⟨wyG_zero.1 (h.ways c 0 hc), h.ins c 0 hc⟩
  · rintro ⟨hc, hi⟩
    obtain ⟨k, hk, hfc⟩ := h.least c 0 hi (wyG_zero.2 hc)
    rw [hfc, show k = 0 by omega]
end Go.Proofs.Ytgkjlfpkhpnpfaa
