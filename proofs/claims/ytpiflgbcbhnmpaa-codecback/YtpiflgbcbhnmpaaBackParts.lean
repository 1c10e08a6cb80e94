/- What is written is read as it was: each reader on the bytes of its writer. -/
import Derived.Test.YtpiflgbcbhnmpaaSameL
import Derived.Test.YtpiflgbcbhnmpaaEqlR
import Derived.Test.YtpiflgbcbhnmpaaCuts
namespace Go.Proofs.Ytpiflgbcbhnmpaa
open Go.RowKit
theorem pow7_lt {i r : Nat} (h : r * 2 ^ (7 * i) < 18446744073709551616) (hr : r ≠ 0) : i ≤ 9 ∧ (i = 9 → r ≤ 1) := by
  have h1 : 2 ^ (7 * i) < 18446744073709551616 := Nat.lt_of_le_of_lt (Nat.le_mul_of_pos_left _ (by omega)) h
  have h2 : i ≤ 9 := by
    refine Nat.le_of_not_lt fun h3 => ?_
    have h4 : 2 ^ (7 * 10) ≤ 2 ^ (7 * i) := Nat.pow_le_pow_right (by decide) (by omega)
    have h5 : (2 : Nat) ^ (7 * 10) = 1180591620717411303424 := by decide
    omega
  refine ⟨h2, fun h3 => ?_⟩
  subst h3
  have h5 : (2 : Nat) ^ (7 * 9) = 9223372036854775808 := by decide
  rw [h5] at h
  omega
theorem join_ten : ∀ (k r i n : Nat) (rest : List Nat), k + i = 10 → r * 2 ^ (7 * i) < 18446744073709551616 → (0 < i → r ≠ 0) → join (sev r ++ rest) i n = some (n + r * 2 ^ (7 * i), i + (sev r).length)
  | 0, r, i, n, rest, hk, hr, h0 => by
    have := (pow7_lt hr (h0 (by omega))).1
    omega
  | k + 1, r, i, n, rest, hk, hr, h0 => by
    by_cases h : r < 128
    · have h9 : ¬ (i = 9 ∧ 1 < r) := fun ⟨h1, h2⟩ => by have := (pow7_lt hr (by omega)).2 h1; omega
      rw [sev_lt h, List.singleton_append, join.eq_2, if_neg h9, if_neg (by omega), if_neg (by omega), Nat.mod_eq_of_lt h]
      rfl
    · have h9 : i ≠ 9 := fun h1 => by have := (pow7_lt hr (by omega)).2 h1; omega
      have e2 : r / 128 * 2 ^ (7 * (i + 1)) = 128 * (r / 128) * 2 ^ (7 * i) := by
        rw [show 7 * (i + 1) = 7 * i + 7 by omega, Nat.pow_add, show (2 : Nat) ^ 7 = 128 by decide, Nat.mul_comm (2 ^ (7 * i)) 128, ← Nat.mul_assoc, Nat.mul_comm (r / 128) 128]
      have e3 : r * 2 ^ (7 * i) = r % 128 * 2 ^ (7 * i) + 128 * (r / 128) * 2 ^ (7 * i) := by
        rw [← Nat.add_mul]; congr 1; omega
      rw [sev_ge h, List.cons_append, join.eq_2, if_neg (by omega), if_pos (by omega)]
      have ih := join_ten k (r / 128) (i + 1) (n + (r % 128 + 128) % 128 * 2 ^ (7 * i)) rest (by omega) (by rw [e2]; omega) (fun _ => by omega)
      rw [ih]
      have e1 : (r % 128 + 128) % 128 = r % 128 := by omega
      rw [e1, e2, e3, List.length_cons, Nat.add_assoc, Nat.add_assoc, Nat.add_comm 1]
theorem join_whole (n : Nat) (hn : n < 18446744073709551616) : joinN (sev n) = n ∧ joinS (sev n) = (sev n).length ∧ joinS (sev n) ≠ 0 := by
  have h := join_ten 10 n 0 0 [] (by omega) (by simpa using hn) (fun h => by omega)
  simp only [Nat.mul_zero, Nat.pow_zero, Nat.mul_one, Nat.zero_add, List.append_nil] at h
  have hl : (sev n).length ≠ 0 := by
    by_cases h : n < 128
    · rw [sev_lt h]; simp
    · rw [sev_ge h]; simp
  unfold joinN joinS
  rw [h]
  exact ⟨rfl, rfl, hl⟩
theorem unf_fold (z : Int) (h0 : -9223372036854775808 < z) (h1 : z < 9223372036854775808) : unf (fold z) = z ∧ fold z ≠ 1 := by
  unfold unf fold
  split <;> (constructor <;> (try split) <;> omega)
/-- A number that is written is read. -/
theorem reads15 (n : Nat) (hn : n < 9223372036854775808) (p : Option Addr) (M cap : Nat) (w : World) (hM : M = (sev n).length) (hB : BytesAt w (.slice p M cap) (sev n)) :
    Calls Try.prog 15 #[.slice p M cap] w fun e w' => ∃ p c, e = .returned (.tuple #[.int .u64 (n : Int), .slice p 0 c, .int .i64 0]) ∧ Below w.heap.size w w' := by
  have h10 := sev_len10 (n := n) (by omega)
  obtain ⟨j1, j2, j3⟩ := join_whole n (by omega)
  refine (readNumber_any (sev n) (sev_byte n) p M cap w hM hB (by omega)).mono fun e w' ⟨p1, N1, c1, hN, he, _, hb⟩ => ?_
  have hok : rdOk (sev n) := ⟨j3, by omega⟩
  unfold rdN rdE at he
  unfold rdL at hN
  rw [if_pos hok, j2, List.drop_length] at hN
  rw [if_pos hok, if_pos hok, j1, hN] at he
  exact ⟨p1, c1, he, hb⟩
theorem reads17 (z : Int) (h0 : -9223372036854775808 < z) (h1 : z < 9223372036854775808) (p : Option Addr) (M cap : Nat) (w : World) (hM : M = (sev (fold z)).length) (hB : BytesAt w (.slice p M cap) (sev (fold z))) :
    Calls Try.prog 17 #[.slice p M cap] w fun e w' => ∃ p c, e = .returned (.tuple #[.int .i64 z, .slice p 0 c, .int .i64 0]) ∧ Below w.heap.size w w' := by
  have hf := fold_lt z h0 h1
  have h10 := sev_len10 hf
  obtain ⟨j1, j2, j3⟩ := join_whole _ hf
  obtain ⟨u1, u2⟩ := unf_fold z h0 h1
  refine (readSigned_any _ (sev_byte _) p M cap w hM hB (by omega)).mono fun e w' ⟨p1, N1, c1, hN, he, _, hb⟩ => ?_
  have hok : rsOk (sev (fold z)) := ⟨j3, by rw [j1]; exact u2⟩
  unfold rsZ rsE at he
  unfold rsL at hN
  rw [if_pos hok, j2, List.drop_length] at hN
  rw [if_pos hok, if_pos hok, j1, u1, hN] at he
  exact ⟨p1, c1, he, hb⟩
theorem bk_short {k : Bk} (hok : k.ok = true) (hf : BkFit k) : k.bytes.length ≤ 262144 := by
  have hn := Bk.nn hok hf
  have h1 := sev_len10 (n := k.tn.toNat) (by have := hn.t1; omega)
  have h2 := sev_len10 (n := k.ds.length) (by have := hn.dl; omega)
  have h4 : k.ds.length ≤ 4 := by
    unfold Bk.ok sdsOk at hok
    simp only [Bool.and_eq_true, decide_eq_true_eq] at hok
    exact hok.2.1
  have h3 : ∀ (ds : List Sd), (∀ d ∈ ds, d.Nn) → (ds.flatMap Sd.bytes).length ≤ 62000 * ds.length := fun ds => by
    induction ds with
    | nil => intro _; simp
    | cons d ds ih =>
      intro h
      have h1 := sd_len (h d (by simp))
      have h2 := ih (fun x hx => h x (by simp [hx]))
      rw [List.flatMap_cons, List.length_append, List.length_cons]; omega
  have h3 := h3 k.ds hn.ds
  have := hn.p; have := hn.r; have := hn.s
  simp only [Bk.bytes, sdsB, List.length_append]
  omega
/-- A block that is written is read. -/
theorem reads34 (k : Bk) (hok : k.ok = true) (hf : BkFit k) (hraw : BkRaw k) (p : Option Addr) (M cap : Nat) (w : World) (hM : M = k.bytes.length) (hB : BytesAt w (.slice p M cap) k.bytes) :
    Calls Try.prog 34 #[.slice p M cap] w fun e w' => ∃ (q : Option Addr) (c : Nat) (es : List Value), es = k.cells (.slice q k.ds.length c) ∧ e = .returned (.tuple #[.agg es.toArray, .int .i64 0]) ∧ es.length = 98 ∧ (∀ v ∈ es, v.oneCell' = true) ∧ SdsAt w' (.slice q k.ds.length c) k.ds ∧ Below w.heap.size w w' := by
  have hl := bk_short hok hf
  have hpf := pBlk_forth k [] ⟨hok, hf⟩
  rw [List.append_nil] at hpf
  have hE : whE k.bytes.length (pBlk (k.bytes, false)).2 = 0 := by
    rw [hpf]; unfold whE; rw [if_neg (by omega), if_neg (by simp)]
  have hW : wh70 k.bytes = k := by unfold wh70; rw [if_pos hE, hpf]
  refine (read34 k.bytes (byt_bk hraw) p M cap w hM hB (by omega)).mono fun e w' ⟨es, he, hA, hel, hone, hb⟩ => ?_
  rw [hE] at he
  rw [hW] at hA
  obtain ⟨cv, hes, hS⟩ := hA
  have hS' := hS.at
  obtain ⟨q, c, ess, rfl, _⟩ := id hS'
  exact ⟨q, c, es, hes, he, hel, hone, hS', hb⟩
/-- A replay that is written is read. -/
theorem reads38 (ks : List Bk) (hok : bksOk ks = true) (hraw : ∀ k ∈ ks, BkRaw k) (hf : ∀ k ∈ ks, BkFit k) (p : Option Addr) (M cap : Nat) (w : World) (hM : M = (bksB ks).length) (hl : M ≤ 262144) (hB : BytesAt w (.slice p M cap) (bksB ks)) :
    Calls Try.prog 38 #[.slice p M cap] w fun e w' => ∃ (q : Option Addr) (N c : Nat), N = ks.length ∧ e = .returned (.tuple #[.slice q N c, .int .i64 0]) ∧ BksAt w' (.slice q N c) ks ∧ Below w.heap.size w w' := by
  have hpf := pRep_forth ks [] hok hf
  rw [List.append_nil] at hpf
  have hE : whE (bksB ks).length (pRep (bksB ks, false)).2 = 0 := by
    rw [hpf]; unfold whE; rw [if_neg (by omega), if_neg (by simp)]
  have hW : wh77 (bksB ks) = ks := by unfold wh77; rw [if_pos hE, hpf]
  refine (read38 (bksB ks) (byt_bks hraw) p M cap w hM hB (by omega)).mono fun e w' ⟨q, N, c, hN, he, hA, hb⟩ => ?_
  rw [hE] at he
  rw [hW] at hA hN
  exact ⟨q, N, c, hN, he, hA.at, hb⟩
/-- A result that is written is read. -/
theorem reads36 (r : Rs) (hr : RsRaw r) (hok : r.ok = true) (p : Option Addr) (M cap : Nat) (w : World) (hM : M = r.bytes.length) (hB : BytesAt w (.slice p M cap) r.bytes) :
    Calls Try.prog 36 #[.slice p M cap] w fun e w' => e = .returned (.tuple #[.agg r.cells.toArray, .int .i64 0]) ∧ Below w.heap.size w w' := by
  have hn := Rs.nn hok hr.la.1 hr.tg.1
  have l1 := sev_len10 hn.m
  have l2 := sev_len10 (n := r.tn.toNat) (by have := hn.t1; omega)
  have l3 := sev_len10 (n := (r.wn + 1).toNat) (by have := hn.w1; omega)
  have hl : r.bytes.length ≤ 200 := by
    have := hn.la; have := hn.tg
    simp only [Rs.bytes, Rs.claim, List.length_append]; omega
  have hby : Byt r.bytes := by
    unfold Rs.bytes Rs.claim
    exact byt_app (byt_app (sev_byte _) (byt_app (sev_byte _) (byt_app (sev_byte _) hr.la.2))) hr.tg.2
  have hpf := pRes_forth r [] hok hr.la.1 hr.tg.1
  rw [List.append_nil] at hpf
  have hE : whE r.bytes.length (pRes (r.bytes, false)).2 = 0 := by
    rw [hpf]; unfold whE; rw [if_neg (by omega), if_neg (by simp)]
  have hW : wh73 r.bytes = r := by unfold wh73; rw [if_pos hE, hpf]
  refine (read36 r.bytes hby p M cap w hM hB (by omega)).mono fun e w' ⟨es, he, hA, hel, hone, hb⟩ => ?_
  rw [hE] at he
  rw [hW] at hA
  rw [hA] at he
  exact ⟨he, hb⟩
end Go.Proofs.Ytpiflgbcbhnmpaa
