/- What is written is read as it was, and what stands behind it stays; cut, or with more behind it, it is refused. -/
import Derived.Test.YtpiflgbcbhnmpaaBack
namespace Go.Proofs.Ytpiflgbcbhnmpaa
open Go.RowKit
theorem join_of : ∀ (k r i n : Nat) (rest : List Nat), k + i = 9 → r < 128 ^ k → (0 < i → r ≠ 0) → join (sev r ++ rest) i n = some (n + r * 2 ^ (7 * i), i + (sev r).length)
  | 0, r, i, n, rest, hk, hr, h0 => by
    have : r = 0 := by simpa using hr
    exact absurd this (h0 (by omega))
  | k + 1, r, i, n, rest, hk, hr, h0 => by
    by_cases h : r < 128
    · rw [sev_lt h, List.singleton_append, join.eq_2, if_neg (by omega), if_neg (by omega), if_neg (by omega), Nat.mod_eq_of_lt h]
      rfl
    · rw [sev_ge h, List.cons_append, join.eq_2, if_neg (by omega), if_pos (by omega)]
      have ih := join_of k (r / 128) (i + 1) (n + (r % 128 + 128) % 128 * 2 ^ (7 * i)) rest (by omega) (by rw [Nat.pow_succ] at hr; omega) (fun _ => by omega)
      rw [ih]
      have e1 : (r % 128 + 128) % 128 = r % 128 := by omega
      have e2 : r / 128 * 2 ^ (7 * (i + 1)) = 128 * (r / 128) * 2 ^ (7 * i) := by
        rw [show 7 * (i + 1) = 7 * i + 7 by omega, Nat.pow_add, show (2 : Nat) ^ 7 = 128 by decide, Nat.mul_comm (2 ^ (7 * i)) 128, ← Nat.mul_assoc, Nat.mul_comm (r / 128) 128]
      have e3 : r * 2 ^ (7 * i) = r % 128 * 2 ^ (7 * i) + 128 * (r / 128) * 2 ^ (7 * i) := by
        rw [← Nat.add_mul]; congr 1; omega
      rw [e1, e2, e3, List.length_cons, Nat.add_assoc, Nat.add_assoc, Nat.add_comm 1]
theorem pN_forth {most n : Nat} (hm : n ≤ most) (hn : n < 9223372036854775808) (rest : List Nat) : pN most (sev n ++ rest, false) = (n, rest, false) := by
  have hj := join_of 9 n 0 0 rest (by omega) (by omega) (fun h => by omega)
  simp only [Nat.mul_zero, Nat.pow_zero, Nat.mul_one, Nat.zero_add] at hj
  obtain ⟨e1, e2, e3⟩ := joinS_of hj
  unfold pN pNum
  simp only [e1, e2]
  rw [if_neg (by omega), List.drop_left]
theorem pD_forth {d : List Nat} (hd : d.length = 32) (rest : List Nat) : pD (d ++ rest, false) = (d, rest, false) := by
  unfold pD pDig
  simp only [List.length_append, hd]
  rw [if_neg (by omega), ← hd, List.take_left, List.drop_left]
/-- f reads what by writes. -/
def Ft {α : Type} (f : S2 → α × S2) (by' : α → List Nat) (P : α → Prop) : Prop := ∀ x rest, P x → f (by' x ++ rest, false) = (x, rest, false)
theorem pMany_forth {α : Type} {f : S2 → α × S2} {by' : α → List Nat} {P : α → Prop} (hR : Ft f by' P) : ∀ (xs : List α) (rest : List Nat), (∀ x ∈ xs, P x) → pMany f xs.length (xs.flatMap by' ++ rest, false) = (xs, rest, false)
  | [], rest, _ => rfl
  | x :: xs, rest, h => by
    have e := hR x (xs.flatMap by' ++ rest) (h x (by simp))
    have ih := pMany_forth hR xs rest (fun y hy => h y (by simp [hy]))
    rw [List.flatMap_cons, List.append_assoc, List.length_cons]
    show ((f _).1 :: (pMany f xs.length (f _).2).1, (pMany f xs.length (f _).2).2) = _
    rw [e, ih]
theorem pList_forth {α : Type} {f : S2 → α × S2} {by' : α → List Nat} {P : α → Prop} (hR : Ft f by' P) {most : Nat} (xs : List α) (rest : List Nat) (hl : xs.length ≤ most) (hm : most < 1000000) (h : ∀ x ∈ xs, P x) : pList most f ((sev xs.length ++ xs.flatMap by') ++ rest, false) = (xs, rest, false) := by
  unfold pList
  rw [List.append_assoc, pN_forth hl (by omega)]
  exact pMany_forth hR xs rest h
theorem rng_nat {a b : Int} (h : rng a b = true) : 0 ≤ a ∧ a ≤ b := by
  simpa [rng] using h
theorem pCmd_forth : Ft pCmd C6.bytes (fun c => c.ok = true) := by
  rintro ⟨k, u, t, h, x, y⟩ rest hok
  have hok' : frm k u t h x y = true := hok
  unfold frm inR bareEq at hok'
  simp only [Bool.and_eq_true, decide_eq_true_eq, beq_iff_eq] at hok'
  obtain ⟨⟨⟨k1, k2⟩, ⟨⟨⟨⟨u1, t1⟩, h1⟩, x1⟩, y1⟩⟩, ⟨⟨⟨⟨⟨_, u2⟩, t2⟩, h2⟩, x2⟩, y2⟩⟩ := hok'
  have u3 := rng_nat u1
  have t3 := rng_nat t1
  have h3 := rng_nat h1
  have x3 := rng_nat x1
  have y3 := rng_nat y1
  obtain ⟨k', rfl⟩ : ∃ n : Nat, k = (n : Int) := ⟨k.toNat, by omega⟩
  obtain ⟨u', rfl⟩ : ∃ n : Nat, u = (n : Int) := ⟨u.toNat, by omega⟩
  obtain ⟨t', rfl⟩ : ∃ n : Nat, t = (n : Int) := ⟨t.toNat, by omega⟩
  obtain ⟨h', rfl⟩ : ∃ n : Nat, h = (n : Int) := ⟨h.toNat, by omega⟩
  obtain ⟨x', rfl⟩ : ∃ n : Nat, x = (n : Int) := ⟨x.toNat, by omega⟩
  obtain ⟨y', rfl⟩ : ∃ n : Nat, y = (n : Int) := ⟨y.toNat, by omega⟩
  have step : ∀ (c : Bool) (most a : Nat) (r : List Nat), ((a : Int) = if c = true then (a : Int) else 0) → a ≤ most → most < 9223372036854775808 → (if c = true then pN most ((if c = true then sev a else []) ++ r, false) else (0, ((if c = true then sev a else []) ++ r, false))) = (a, r, false) := fun c most a r ha hm hmm => by
    cases c
    · have : a = 0 := by simpa using ha
      subst this; rfl
    · simp only [if_true]; exact pN_forth hm (by omega) r
  unfold C6.bytes cmdB pCmd
  simp only [Int.toNat_natCast]
  simp only [List.append_assoc]
  rw [pN_forth (n := k') (most := 6) (by omega) (by omega)]
  simp only
  rw [step (nU (k' : Int)) 2147483647 u' _ u2 (by omega) (by omega)]
  simp only
  rw [step (nT (k' : Int)) 2147483647 t' _ t2 (by omega) (by omega)]
  simp only
  rw [step (nW (k' : Int)) 4 h' _ h2 (by omega) (by omega)]
  simp only
  have hsplit : (if nC (k' : Int) = true then sev x' ++ sev y' else []) ++ rest = (if nC (k' : Int) = true then sev x' else []) ++ ((if nC (k' : Int) = true then sev y' else []) ++ rest) := by
    cases nC (k' : Int) <;> simp
  rw [hsplit, step (nC (k' : Int)) 19 x' _ x2 (by omega) (by omega)]
  simp only
  rw [step (nC (k' : Int)) 19 y' _ y2 (by omega) (by omega)]
theorem cmdsOk_of {cs : List C6} (h : cmdsOk cs = true) : cs.length ≤ 5 ∧ ∀ c ∈ cs, c.ok = true := by
  simpa [cmdsOk] using h
theorem pSeal_forth : Ft pSeal Sd.bytes (fun d => d.ok = true ∧ d.tag.length = 32) := by
  rintro d rest ⟨hok, htag⟩
  have hok' := hok
  unfold Sd.ok at hok'
  simp only [Bool.and_eq_true, decide_eq_true_eq] at hok'
  obtain ⟨⟨⟨⟨m1, p1⟩, t1⟩, e1⟩, c1⟩ := hok'
  have p2 := rng_nat p1
  have t2 := rng_nat t1
  obtain ⟨c2, c3⟩ := cmdsOk_of c1
  obtain ⟨m, pl, tn, em, cs, tag⟩ := d
  simp only at *
  obtain ⟨pl', rfl⟩ : ∃ n : Nat, pl = (n : Int) := ⟨pl.toNat, by omega⟩
  obtain ⟨tn', rfl⟩ : ∃ n : Nat, tn = (n : Int) := ⟨tn.toNat, by omega⟩
  have main : pSeal0 (Sd.bytes ⟨m, pl', tn', em, cs, tag⟩ ++ rest, false) = (⟨m, pl', tn', em, cs, tag⟩, rest, false) := by
    unfold Sd.bytes Sd.body cmdsB pSeal0
    simp only [Int.toNat_natCast]
    have e0 : (sev m ++ (sev pl' ++ (sev tn' ++ (sev (if em = true then 1 else 0) ++ (sev cs.length ++ cs.flatMap C6.bytes))))) ++ tag ++ rest = sev m ++ (sev pl' ++ (sev tn' ++ (sev (if em = true then 1 else 0) ++ ((sev cs.length ++ cs.flatMap C6.bytes) ++ (tag ++ rest))))) := by
      simp only [List.append_assoc]
    rw [e0, pN_forth (n := m) (by omega) (by omega)]
    simp only
    rw [pN_forth (n := pl') (by omega) (by omega)]
    simp only
    rw [pN_forth (n := tn') (by omega) (by omega)]
    simp only
    rw [pN_forth (n := if em = true then 1 else 0) (by split <;> omega) (by split <;> omega)]
    simp only
    rw [pList_forth pCmd_forth cs _ c2 (by omega) c3]
    simp only
    rw [pD_forth htag]
    cases em <;> rfl
  unfold pSeal
  rw [main]
  simp only
  rw [if_pos hok]
theorem sdsOk_of {ds : List Sd} (h : sdsOk ds = true) : ds.length ≤ 4 ∧ ∀ d ∈ ds, d.ok = true := by
  simpa [sdsOk] using h
theorem pBlk_forth : Ft pBlk Bk.bytes (fun k => k.ok = true ∧ BkFit k) := by
  rintro k rest ⟨hok, hfit⟩
  have hok' := hok
  unfold Bk.ok at hok'
  simp only [Bool.and_eq_true, decide_eq_true_eq] at hok'
  obtain ⟨⟨t1, l1⟩, s1⟩ := hok'
  have t2 := rng_nat t1
  obtain ⟨s2, s3⟩ := sdsOk_of s1
  obtain ⟨f1, f2, f3, f4⟩ := hfit
  obtain ⟨tn, pv, rt, st, ds⟩ := k
  simp only at *
  obtain ⟨tn', rfl⟩ : ∃ n : Nat, tn = (n : Int) := ⟨tn.toNat, by omega⟩
  have main : pBlk0 (Bk.bytes ⟨tn', pv, rt, st, ds⟩ ++ rest, false) = (⟨tn', pv, rt, st, ds⟩, rest, false) := by
    unfold Bk.bytes sdsB pBlk0
    simp only [Int.toNat_natCast]
    have e0 : (sev tn' ++ (pv ++ (rt ++ (st ++ (sev ds.length ++ ds.flatMap Sd.bytes))))) ++ rest = sev tn' ++ (pv ++ (rt ++ (st ++ ((sev ds.length ++ ds.flatMap Sd.bytes) ++ rest)))) := by
      simp only [List.append_assoc]
    rw [e0, pN_forth (n := tn') (by omega) (by omega)]
    simp only
    rw [pD_forth f1]
    simp only
    rw [pD_forth f2]
    simp only
    rw [pD_forth f3]
    simp only
    rw [pList_forth pSeal_forth ds _ s2 (by omega) (fun d hd => ⟨s3 d hd, (f4 d hd).2.1⟩)]
  unfold pBlk
  rw [main]
  simp only
  rw [if_pos hok]
theorem bksOk_of {ks : List Bk} (h : bksOk ks = true) : ks.length ≤ 60 ∧ ∀ k ∈ ks, k.ok = true := by
  simpa [bksOk] using h
theorem pRep_forth (ks : List Bk) (rest : List Nat) (hok : bksOk ks = true) (hfit : ∀ k ∈ ks, BkFit k) : pRep (bksB ks ++ rest, false) = (ks, rest, false) := by
  obtain ⟨h1, h2⟩ := bksOk_of hok
  exact pList_forth pBlk_forth ks rest h1 (by omega) (fun k hk => ⟨h2 k hk, hfit k hk⟩)
theorem pRes_forth (r : Rs) (rest : List Nat) (hok : r.ok = true) (hl : r.la.length = 32) (ht : r.tg.length = 32) : pRes (r.bytes ++ rest, false) = (r, rest, false) := by
  unfold Rs.ok at hok
  simp only [Bool.and_eq_true, decide_eq_true_eq] at hok
  obtain ⟨⟨⟨m1, t1⟩, w1⟩, w2⟩ := hok
  have t2 := rng_nat t1
  obtain ⟨m, tn, wn, la, tg⟩ := r
  simp only at *
  obtain ⟨tn', rfl⟩ : ∃ n : Nat, tn = (n : Int) := ⟨tn.toNat, by omega⟩
  obtain ⟨w', hw'⟩ : ∃ n : Nat, wn + 1 = (n : Int) := ⟨(wn + 1).toNat, by omega⟩
  obtain rfl : wn = (w' : Int) - 1 := by omega
  unfold Rs.bytes Rs.claim pRes
  have e0 : sev m ++ (sev (tn' : Int).toNat ++ (sev ((w' : Int) - 1 + 1).toNat ++ la)) ++ tg ++ rest = sev m ++ (sev tn' ++ (sev w' ++ (la ++ (tg ++ rest)))) := by
    rw [hw']; simp only [List.append_assoc, Int.toNat_natCast]
  simp only
  rw [e0, pN_forth (n := m) (by omega) (by omega)]
  simp only
  rw [pN_forth (n := tn') (by omega) (by omega)]
  simp only
  rw [pN_forth (n := w') (by omega) (by omega)]
  simp only
  rw [pD_forth hl]
  simp only
  rw [pD_forth ht]
/-- A replay's bytes, cut short or with more behind them, are refused. -/
theorem cut_bad (ks : List Bk) (hok : bksOk ks = true) (hfit : ∀ k ∈ ks, BkFit k) (hb : Fit (bksB ks, false)) (k : Nat) (hk : k < (bksB ks).length) (hfits : ∀ k' ∈ (pRep ((bksB ks).take k, false)).1, BkFit k') (hlen : (bksB ks).length ≤ 262144) : whE ((bksB ks).take k).length (pRep ((bksB ks).take k, false)).2 = 11 := by
  unfold whE
  rw [if_neg (by rw [List.length_take]; omega)]
  by_cases hbad : (pRep ((bksB ks).take k, false)).2.2 = true ∨ 0 < (pRep ((bksB ks).take k, false)).2.1.length
  · rw [if_pos hbad]
  · exfalso
    have h1 : (pRep ((bksB ks).take k, false)).2.2 = false := by
      cases h : (pRep ((bksB ks).take k, false)).2.2 with
      | false => rfl
      | true => exact absurd (Or.inl h) hbad
    have h2 : (pRep ((bksB ks).take k, false)).2.1 = [] := List.eq_nil_of_length_eq_zero (by omega)
    have hF : Fit ((bksB ks).take k, false) := ⟨fun x hx => hb.1 x (List.mem_of_mem_take hx), by rw [List.length_take]; have := hb.2; simp only at this ⊢; omega⟩
    obtain ⟨e1, e2⟩ := pRep_ok _ hF h1
    rw [h2, List.append_nil] at e1
    simp only at e1
    have e3 := pRep_forth (pRep ((bksB ks).take k, false)).1 ((bksB ks).drop k) e2 hfits
    rw [← e1, List.take_append_drop] at e3
    have e4 := pRep_forth ks [] hok hfit
    rw [List.append_nil] at e4
    rw [e4] at e3
    have e5 : ([] : List Nat) = (bksB ks).drop k := by
      have := congrArg (fun z => z.2.1) e3
      exact this
    have e6 := congrArg List.length e5
    rw [List.length_drop] at e6
    simp at e6
    omega
theorem more_bad (ks : List Bk) (hok : bksOk ks = true) (hfit : ∀ k ∈ ks, BkFit k) (more : List Nat) (hm : more ≠ []) (hlen : (bksB ks ++ more).length ≤ 262144) : whE (bksB ks ++ more).length (pRep (bksB ks ++ more, false)).2 = 11 := by
  rw [pRep_forth ks more hok hfit]
  unfold whE
  rw [if_neg (by omega), if_pos (Or.inr (List.length_pos_iff.2 hm))]
end Go.Proofs.Ytpiflgbcbhnmpaa
