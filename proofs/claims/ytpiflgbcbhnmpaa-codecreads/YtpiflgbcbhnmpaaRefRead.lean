/- What the reference's ReadNumber answers. -/
import Derived.Test.YtpiflgbcbhnmpaaRead
namespace Go.Proofs.Ytpiflgbcbhnmpaa
open Go.RowKit
theorem joinS_of {bs : List Nat} {m s : Nat} (h : join bs 0 0 = some (m, s)) : joinN bs = m ∧ joinS bs = s ∧ s ≠ 0 := by
  have := join_some _ _ _ _ _ h
  unfold joinN joinS; rw [h]; exact ⟨rfl, rfl, by omega⟩
theorem rd_ok {bs : List Nat} {m s : Nat} (h : join bs 0 0 = some (m, s)) (hm : m < 9223372036854775808) : rdN bs = m ∧ rdL bs = bs.drop s ∧ rdE bs = 0 := by
  obtain ⟨h1, h2, h3⟩ := joinS_of h
  have hok : rdOk bs := by unfold rdOk; rw [h1, h2]; exact ⟨h3, hm⟩
  unfold rdN rdL rdE
  rw [if_pos hok, if_pos hok, if_pos hok, h1, h2]
  exact ⟨rfl, rfl, rfl⟩
theorem rd_no {bs : List Nat} (h : ∀ m s, join bs 0 0 = some (m, s) → 9223372036854775808 ≤ m) : rdN bs = 0 ∧ rdL bs = [] ∧ rdE bs = 11 := by
  have hok : ¬ rdOk bs := by
    rintro ⟨h1, h2⟩
    rcases hj : join bs 0 0 with _ | ⟨m, s⟩
    · unfold joinS at h1; rw [hj] at h1; exact h1 rfl
    · obtain ⟨e1, _, _⟩ := joinS_of hj
      have := h m s hj
      omega
  unfold rdN rdL rdE
  rw [if_neg hok, if_neg hok, if_neg hok]
  exact ⟨rfl, rfl, rfl⟩
theorem join_nine (l : List Nat) (n m s : Nat) (h : join l 9 n = some (m, s)) : 9223372036854775808 ≤ m := by
  rcases l with _ | ⟨x, r⟩
  · simp [join] at h
  · rw [join.eq_2] at h
    split at h
    · cases h
    · split at h
      · omega
      · split at h
        · cases h
        · have hx : x = 1 := by omega
          subst hx
          simp at h
          omega
theorem OutR.ok {w : World} {bs : List Nat} {m s : Nat} {e : Ending} {w' : World} (h : join bs 0 0 = some (m, s)) (hm : m < 9223372036854775808) (ho : OutR w w.heap.size (.int .u64 (m : Int)) (bs.drop s) 0 e w') : OutR w w.heap.size (.int .u64 (rdN bs : Int)) (rdL bs) (rdE bs) e w' := by
  obtain ⟨h1, h2, h3⟩ := rd_ok h hm
  rw [h1, h2, h3]; exact ho
theorem OutR.no {w : World} {bs : List Nat} {e : Ending} {w' : World} (h : ∀ m s, join bs 0 0 = some (m, s) → 9223372036854775808 ≤ m) (ho : OutR w w.heap.size (.int .u64 0) [] 11 e w') : OutR w w.heap.size (.int .u64 (rdN bs : Int)) (rdL bs) (rdE bs) e w' := by
  obtain ⟨h1, h2, h3⟩ := rd_no h
  rw [h1, h2, h3]; exact ho
theorem OutR.bad (w : World) (z : Value) : OutR w w.heap.size z [] 11 (.returned (.tuple #[z, .slice none 0 0, .int .i64 11])) w := ⟨none, 0, 0, rfl, rfl, OwnB.nil _ _, Below.refl _ _⟩
set_option maxRecDepth 100000 in
set_option maxHeartbeats 2000000 in
theorem refReadNumber_any (bs : List Nat) (hbs : ∀ x ∈ bs, x < 256) (p : Option Addr) (M cap : Nat) (w : World) (hM : M = bs.length) (hB : BytesAt w (.slice p M cap) bs) (hsz : M < 100000000000) :
    Calls Try.prog 16 #[.slice p M cap] w fun e w' => OutR w w.heap.size (.int .u64 (rdN bs : Int)) (rdL bs) (rdE bs) e w' := by
  have HM : Hid (M = bs.length) := hM
  have H0 : Hid (bs ≠ [] → M ≤ cap ∧ ∃ sb so, p = some ⟨sb, so, none⟩ ∧ ∀ i, i < bs.length → w.cell? ⟨sb, so + i, none⟩ = some (By (bs.getD i 0))) := by
    obtain ⟨p', c', he, hc, _, h⟩ := hB
    simp at he
    obtain ⟨rfl, rfl, rfl⟩ := he
    exact fun hn => ⟨hc, h hn⟩
  have HX : Hid (∀ x ∈ bs, x < 256) := hbs
  have HB : Hid (BytesAt w (.slice p M cap) bs) := hB
  clear hM hB hbs
  go_enter Try.func16, Try.ntmps16
  go_wp2
  go_loopw [5, 6] (fun nv iv wr => ∃ n i : Nat, nv = .int .u64 n ∧ iv = .int .i64 i ∧ i ≤ M ∧ i ≤ 9 ∧ Hid (n < 2 ^ (7 * i)) ∧ Hid (join bs 0 0 = join (bs.drop i) i n) ∧ wr = w) (fun _ iv _ => M - natOf iv)
  case atStart => exact ⟨0, 0, rfl, rfl, by omega, by omega, by show _ < _; simp, rfl, rfl⟩
  case round =>
    obtain ⟨n, i, rfl, rfl, hi, hi9, hn, hj, rfl⟩ := hrel
    by_cases hlt : i < M
    · by_cases h9 : i < 9
      · have hlb : i < bs.length := by have := HM.out; omega
        have hne : bs ≠ [] := by rintro rfl; simp at hlb
        obtain ⟨hcap, sb, so, rfl, hcell⟩ := H0.out hne
        have c0 := hcell i hlb
        clear hcell
        obtain ⟨x, hx⟩ : ∃ x, x = bs.getD i 0 := ⟨_, rfl⟩
        rw [← hx] at c0
        have hx256 : x < 256 := HX.out x (by rw [hx, show bs.getD i 0 = bs[i] by simp [hlb]]; exact List.getElem_mem _)
        have hdrop : bs.drop i = x :: bs.drop (i + 1) := by
          rw [List.drop_eq_getElem_cons hlb, hx]; simp [hlb]
        rw [hdrop] at hj
        have hj' := hj.out.trans (join.eq_2 _ _ _ _)
        rw [if_neg (by omega)] at hj'
        have HJ : Hid (join bs 0 0 = if 128 ≤ x then join (bs.drop (i + 1)) (i + 1) (n + x % 128 * 2 ^ (7 * i)) else if x = 0 ∧ 0 < i then none else some (n + x % 128 * 2 ^ (7 * i), i + 1)) := hj'
        clear hj hj' hdrop hx hne
        have c0' : wr.cell? ⟨sb, so + i, none⟩ = some (.int .u8 (x : Int)) := c0
        clear c0
        have e0 : (0 : Int) ≤ (i : Int) := by omega
        have e1 : (i : Int) < (M : Int) := by omega
        have e9 : (i : Int) < 9 := by omega
        obtain ⟨hs1, hs2⟩ := step_lt i n (x % 128) hi9 hn.out (by omega) (by omega)
        have b2 : IntKind.u64.wrap (((x % 128 : Nat) : Int) * 2 ^ (7 * i)) = ((x % 128 * 2 ^ (7 * i) : Nat) : Int) := by
          rw [← wrap_u64 (x % 128 * 2 ^ (7 * i)) (by omega)]; congr 1
        obtain ⟨Y, hY⟩ : ∃ Y, Y = x % 128 * 2 ^ (7 * i) := ⟨_, rfl⟩
        obtain ⟨Z, hZ⟩ : ∃ Z, Z = n + Y := ⟨_, rfl⟩
        rw [← hY] at hs1 hs2 b2 HJ
        rw [← hZ] at hs1 hs2 HJ
        obtain ⟨q, hq⟩ : ∃ q, q = x % 128 := ⟨_, rfl⟩
        rw [← hq] at b2
        have b1 : (x : Int) % 128 = (q : Int) := by omega
        have hq128 : q < 128 := by omega
        have HZ : Hid (Z < 2 ^ (7 * (i + 1))) := hs2 (by omega)
        have b3 : (n : Int) + (Y : Int) = (Z : Int) := by omega
        have HZ63 : Hid (Z < 9223372036854775808) := by
          refine Nat.lt_of_lt_of_le HZ.out ?_
          have : (2 : Nat) ^ (7 * (i + 1)) ≤ 2 ^ 63 := Nat.pow_le_pow_right (by omega) (by omega)
          exact this
        have HQ0 : Hid (x = 0 → q = 0) := fun h => by rw [hq, h]
        have HY0 : Hid (x = 0 → Y = 0) := fun h => by rw [hY, h]; simp
        have HZ0 : Hid (Z = n + Y) := hZ
        have HN : Hid (n < 2 ^ (7 * i)) := hn
        clear hq hs2 hn hY hZ
        have w7 : IntKind.i64.wrap (7 * (i : Int)) = 7 * (i : Int) := by rw [IntKind.wrap_i64]; omega
        by_cases h128 : 128 ≤ x
        · have g1 : ¬ (x : Int) < 128 := by omega
          have HJ3 : Hid (join bs 0 0 = join (bs.drop (i + 1)) (i + 1) Z) := by rw [HJ.out, if_pos h128]; exact rfl
          clear HJ
          go_wp2
          go_roundw
          case rel => exact ⟨Z, i + 1, rfl, by go_num, by omega, by omega, HZ, HJ3, trivial⟩
          case measure => simp [natOf]; omega
        · have g1 : (x : Int) < 128 := by omega
          rw [if_neg h128] at HJ
          by_cases h0 : x = 0 ∧ 0 < i
          · have HJ3 : Hid (join bs 0 0 = none) := by rw [HJ.out, if_pos h0]; exact rfl
            obtain ⟨rfl, h0i⟩ := h0
            have g2 : (0 : Int) < (i : Int) := by omega
            clear HJ
            go_wp2
            go_ret3
            exact OutR.no (fun m s h => by rw [HJ3.out] at h; cases h) (OutR.bad _ _)
          · have HJ3 : Hid (join bs 0 0 = some (Z, i + 1)) := by rw [HJ.out, if_neg h0]; exact rfl
            have g2 : ((x : Int) == 0) = false ∨ (x = 0 ∧ i = 0) := by simp; omega
            clear HJ
            have m1 : IntKind.i64.wrap ((i : Int) + 1) = (i : Int) + 1 := by rw [IntKind.wrap_i64]; omega
            have hbd := bytes_drop HM.out HB.out (s := i + 1) (by omega) hcap
            have hO5 := OwnB.nil wr wr.heap.size
            have hN5 : ([] : List Nat).length + (bs.drop (i + 1)).length = M - (i + 1) := by have := HM.out; simp; omega
            have hNN : M - (i + 1) ≤ 1099511627776 := by omega
            rcases g2 with g2 | ⟨rfl, rfl⟩
            · by_cases hcs : cap = i + 1
              · have hBd := hbd.1 hcs
                clear hbd
                obtain rfl := hcs
                go_wp2
                go_ret3
                have ed : bs.drop (i + 1) = [] := List.drop_eq_nil_of_le (by have := HM.out; omega)
                exact OutR.ok HJ3.out HZ63.out ⟨none, 0, 0, by rw [ed]; rfl, rfl, by rw [ed]; exact OwnB.nil _ _, Below.refl _ _⟩
              · have hBd := hbd.2 hcs
                clear hbd
                go_wp2_with (first
                  | ((with_reducible refine wpL_append wr.heap.size (.slice none 0 0) (.slice (some ⟨sb, so + (i + 1), none⟩) (M - (i + 1)) (cap - (i + 1))) [] (bs.drop (i + 1)) (M - (i + 1)) hN5 ?_ ?_ hO5 hBd hNN (by simp) ?_); (rfl); (rfl); (intro pm cm w5 hO6 hb6); (simp only [Act.put, List.setIfInBounds_toArray, List.set_cons_zero, List.set_cons_succ])))
                go_ret3
                exact OutR.ok HJ3.out HZ63.out ⟨pm, M - (i + 1), cm, by have := HM.out; simp; omega, rfl, hO6, hb6⟩
            · obtain rfl : q = 0 := HQ0.out rfl
              obtain rfl : Y = 0 := HY0.out rfl
              obtain rfl : n = 0 := by have h := HN.out; simp at h; exact h
              obtain rfl : Z = 0 := HZ0.out
              have c0'' : wr.cell? ⟨sb, so, none⟩ = some (.int .u8 0) := by simpa using c0'
              have e2 : (0 : Int) < (M : Int) := by omega
              clear c0' e1 e9 b1 b2 b3 w7 m1 HQ0 HY0 HZ0 HN g1
              by_cases hcs : cap = 1
              · subst hcs
                clear hbd
                go_wp2
                go_ret3
                have ed : bs.drop (0 + 1) = [] := List.drop_eq_nil_of_le (by have := HM.out; omega)
                exact OutR.ok HJ3.out HZ63.out ⟨none, 0, 0, by rw [ed]; rfl, rfl, by rw [ed]; exact OwnB.nil _ _, Below.refl _ _⟩
              · have hBd : BytesAt wr (.slice (some ⟨sb, so + 1, none⟩) (M - 1) (cap - 1)) (bs.drop 1) := by simpa using hbd.2 (by omega)
                clear hbd
                go_wp2_with (first
                  | ((with_reducible refine wpL_append wr.heap.size (.slice none 0 0) (.slice (some ⟨sb, so + 1, none⟩) (M - 1) (cap - 1)) [] (bs.drop 1) (M - 1) hN5 ?_ ?_ hO5 hBd hNN (by simp) ?_); (rfl); (rfl); (intro pm cm w5 hO6 hb6); (simp only [Act.put, List.setIfInBounds_toArray, List.set_cons_zero, List.set_cons_succ])))
                go_ret3
                exact OutR.ok HJ3.out HZ63.out ⟨pm, M - 1, cm, by have := HM.out; simp; omega, rfl, hO6, hb6⟩
      · obtain rfl : i = 9 := by omega
        have e1 : (9 : Int) < (M : Int) := by omega
        have HJ3 : Hid (∀ m s, join bs 0 0 = some (m, s) → 9223372036854775808 ≤ m) := fun m s h => join_nine _ _ m s (hj.out ▸ h)
        clear hj
        go_wp2
        go_ret3
        exact OutR.no HJ3.out (OutR.bad _ _)
    · have e1 : ¬ (i : Int) < (M : Int) := by omega
      have HJ3 : Hid (join bs 0 0 = none) := by
        rw [hj.out, List.drop_eq_nil_of_le (by have := HM.out; omega)]; exact rfl
      clear hj
      go_wp2
      go_ret3
      exact OutR.no (fun m s h => by rw [HJ3.out] at h; cases h) (OutR.bad _ _)
end Go.Proofs.Ytpiflgbcbhnmpaa
