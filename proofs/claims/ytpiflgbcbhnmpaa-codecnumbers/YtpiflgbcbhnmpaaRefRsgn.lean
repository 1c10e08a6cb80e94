/- What the reference's ReadSigned answers. -/
import Derived.Test.YtpiflgbcbhnmpaaRsgn
namespace Go.Proofs.Ytpiflgbcbhnmpaa
open Go.RowKit
theorem OutR.sok {w : World} {bs : List Nat} {m s : Nat} {z : Int} {e : Ending} {w' : World} (h : join bs 0 0 = some (m, s)) (hm : m ≠ 1) (hz : unf m = z) (ho : OutR w w.heap.size (.int .i64 z) (bs.drop s) 0 e w') : OutR w w.heap.size (.int .i64 (rsZ bs)) (rsL bs) (rsE bs) e w' := by
  obtain ⟨h1, h2, h3⟩ := joinS_of h
  have hok : rsOk bs := by unfold rsOk; rw [h1, h2]; exact ⟨h3, hm⟩
  unfold rsZ rsL rsE
  rw [if_pos hok, if_pos hok, if_pos hok, h1, h2, hz]
  exact ho
theorem OutR.sno {w : World} {bs : List Nat} {e : Ending} {w' : World} (h : ∀ m s, join bs 0 0 = some (m, s) → m = 1) (ho : OutR w w.heap.size (.int .i64 0) [] 11 e w') : OutR w w.heap.size (.int .i64 (rsZ bs)) (rsL bs) (rsE bs) e w' := by
  have hok : ¬ rsOk bs := by
    rintro ⟨h1, h2⟩
    rcases hj : join bs 0 0 with _ | ⟨m, s⟩
    · unfold joinS at h1; rw [hj] at h1; exact h1 rfl
    · obtain ⟨e1, _, _⟩ := joinS_of hj
      have := h m s hj
      omega
  unfold rsZ rsL rsE
  rw [if_neg hok, if_neg hok, if_neg hok]
  exact ho
set_option maxRecDepth 100000 in
set_option maxHeartbeats 4000000 in
theorem refReadSigned_any (bs : List Nat) (hbs : ∀ x ∈ bs, x < 256) (p : Option Addr) (M cap : Nat) (w : World) (hM : M = bs.length) (hB : BytesAt w (.slice p M cap) bs) (hsz : M < 100000000000) :
    Calls Try.prog 18 #[.slice p M cap] w fun e w' => OutR w w.heap.size (.int .i64 (rsZ bs)) (rsL bs) (rsE bs) e w' := by
  have HM : Hid (M = bs.length) := hM
  have H0 : Hid (bs ≠ [] → M ≤ cap ∧ ∃ sb so, p = some ⟨sb, so, none⟩ ∧ ∀ i, i < bs.length → w.cell? ⟨sb, so + i, none⟩ = some (By (bs.getD i 0))) := by
    obtain ⟨p', c', he, hc, _, h⟩ := hB
    simp at he
    obtain ⟨rfl, rfl, rfl⟩ := he
    exact fun hn => ⟨hc, h hn⟩
  have HX : Hid (∀ x ∈ bs, x < 256) := hbs
  have HB : Hid (BytesAt w (.slice p M cap) bs) := hB
  clear hM hB hbs
  go_enter Try.func18, Try.ntmps18
  go_wp2
  go_loopw [5, 6] (fun nv iv wr => ∃ n i : Nat, nv = .int .u64 n ∧ iv = .int .i64 i ∧ i ≤ M ∧ i ≤ 9 ∧ Hid (n < 2 ^ (7 * i)) ∧ Hid (join bs 0 0 = join (bs.drop i) i n) ∧ wr = w) (fun _ iv _ => M - natOf iv)
  case atStart => exact ⟨0, 0, rfl, rfl, by omega, by omega, by show _ < _; simp, rfl, rfl⟩
  case round =>
    obtain ⟨n, i, rfl, rfl, hi, hi9, hn, hj, rfl⟩ := hrel
    have e10 : (i : Int) < 10 := by omega
    by_cases hlt : i < M
    · have hlb : i < bs.length := by have := HM.out; omega
      have hne : bs ≠ [] := by rintro rfl; simp at hlb
      obtain ⟨hcap, sb, so, rfl, hcell⟩ := H0.out hne
      have c0 := hcell i hlb
      clear hcell
      obtain ⟨x, hx⟩ : ∃ x, x = bs.getD i 0 := ⟨_, rfl⟩
      rw [← hx] at c0
      have hx256 : x < 256 := HX.out x (by rw [hx, show bs.getD i 0 = bs[i] by simp [hlb]]; exact List.getElem_mem _)
      have hdrop : bs.drop i = x :: bs.drop (i + 1) := by
        rw [List.drop_eq_getElem_cons hlb, hx]; simp [hlb]
      rw [hdrop] at hj
      have hj' := hj.out.trans (join.eq_2 _ _ _ _)
      have HJ : Hid (join bs 0 0 = if i = 9 ∧ 1 < x then none else if 128 ≤ x then join (bs.drop (i + 1)) (i + 1) (n + x % 128 * 2 ^ (7 * i)) else if x = 0 ∧ 0 < i then none else some (n + x % 128 * 2 ^ (7 * i), i + 1)) := hj'
      clear hj hj' hdrop hx hne
      have c0' : wr.cell? ⟨sb, so + i, none⟩ = some (.int .u8 (x : Int)) := c0
      clear c0
      have e0 : (0 : Int) ≤ (i : Int) := by omega
      have e1 : (i : Int) < (M : Int) := by omega
      by_cases hbig : i = 9 ∧ 1 < x
      · have HJ2 : Hid (join bs 0 0 = none) := by rw [HJ.out, if_pos hbig]; exact rfl
        clear HJ
        obtain ⟨rfl, h1x⟩ := hbig
        have f2 : (1 : Int) < (x : Int) := by omega
        go_wp2
        go_ret3
        exact OutR.sno (fun m s h => by rw [HJ2.out] at h; cases h) (OutR.bad _ _)
      · obtain ⟨hs1, hs2⟩ := step_lt i n (x % 128) hi9 hn.out (by omega) (by omega)
        have b2 : IntKind.u64.wrap (((x % 128 : Nat) : Int) * 2 ^ (7 * i)) = ((x % 128 * 2 ^ (7 * i) : Nat) : Int) := by
          rw [← wrap_u64 (x % 128 * 2 ^ (7 * i)) (by omega)]; congr 1
        have HJ2 : Hid (join bs 0 0 = if 128 ≤ x then join (bs.drop (i + 1)) (i + 1) (n + x % 128 * 2 ^ (7 * i)) else if x = 0 ∧ 0 < i then none else some (n + x % 128 * 2 ^ (7 * i), i + 1)) := by rw [HJ.out, if_neg hbig]; exact rfl
        clear HJ
        obtain ⟨Y, hY⟩ : ∃ Y, Y = x % 128 * 2 ^ (7 * i) := ⟨_, rfl⟩
        obtain ⟨Z, hZ⟩ : ∃ Z, Z = n + Y := ⟨_, rfl⟩
        rw [← hY] at hs1 hs2 b2 HJ2
        rw [← hZ] at hs1 hs2 HJ2
        obtain ⟨q, hq⟩ : ∃ q, q = x % 128 := ⟨_, rfl⟩
        rw [← hq] at b2
        have b1 : (x : Int) % 128 = (q : Int) := by omega
        have hq128 : q < 128 := by omega
        have HZ : Hid (i ≤ 8 → Z < 2 ^ (7 * (i + 1))) := hs2
        have b3 : (n : Int) + (Y : Int) = (Z : Int) := by omega
        have HQ0 : Hid (x = 0 → q = 0) := fun h => by rw [hq, h]
        have HY0 : Hid (x = 0 → Y = 0) := fun h => by rw [hY, h]; simp
        have HY9 : Hid (x = 1 → i = 9 → Y = 9223372036854775808) := fun h h' => by rw [hY, h, h']
        have HZ0 : Hid (Z = n + Y) := hZ
        have HN : Hid (n < 2 ^ (7 * i)) := hn
        clear hq hs2 hn hY hZ
        have w7 : IntKind.i64.wrap (7 * (i : Int)) = 7 * (i : Int) := by rw [IntKind.wrap_i64]; omega
        have m1 : IntKind.i64.wrap ((i : Int) + 1) = (i : Int) + 1 := by rw [IntKind.wrap_i64]; omega
        have f9 : (i = 9 ∧ x ≤ 1) ∨ ((i : Int) == 9) = false := by simp; omega
        by_cases h128 : 128 ≤ x
        · have g1 : ¬ (x : Int) < 128 := by omega
          have g9 : ((i : Int) == 9) = false := by simp; omega
          have HJ3 : Hid (join bs 0 0 = join (bs.drop (i + 1)) (i + 1) Z) := by rw [HJ2.out, if_pos h128]; exact rfl
          clear HJ2 f9
          go_wp2
          go_roundw
          case rel => exact ⟨Z, i + 1, rfl, by go_num, by omega, by omega, HZ.out (by omega), HJ3, trivial⟩
          case measure => simp [natOf]; omega
        · have g1 : (x : Int) < 128 := by omega
          rw [if_neg h128] at HJ2
          by_cases h0 : x = 0 ∧ 0 < i
          · have HJ3 : Hid (join bs 0 0 = none) := by rw [HJ2.out, if_pos h0]; exact rfl
            have g2 : (0 : Int) < (i : Int) := by omega
            obtain ⟨rfl, h0i⟩ := h0
            clear HJ2
            rcases f9 with ⟨rfl, f1⟩ | f9
            · clear b1 b2 b3 w7 m1
              go_wp2
              go_ret3
              exact OutR.sno (fun m s h => by rw [HJ3.out] at h; cases h) (OutR.bad _ _)
            · go_wp2
              go_ret3
              exact OutR.sno (fun m s h => by rw [HJ3.out] at h; cases h) (OutR.bad _ _)
          · have HJ3 : Hid (join bs 0 0 = some (Z, i + 1)) := by rw [HJ2.out, if_neg h0]; exact rfl
            have g2 : ((x : Int) == 0) = false ∨ (x = 0 ∧ i = 0) := by simp; omega
            clear HJ2
            by_cases hZ1 : Z = 1
            · have HJ4 : Hid (∀ m s, join bs 0 0 = some (m, s) → m = 1) := fun m s h => by rw [HJ3.out] at h; simp at h; omega
              clear HJ3
              rcases f9 with ⟨rfl, f1⟩ | f9
              · have := HY9.out (by omega) rfl
                have := HZ0.out
                omega
              · rcases g2 with g2 | ⟨rfl, rfl⟩
                · subst hZ1
                  go_wp2
                  go_ret3
                  exact OutR.sno HJ4.out (OutR.bad _ _)
                · have h1 := HY0.out rfl
                  have h2 := HZ0.out
                  have h3 := HN.out
                  simp at h3
                  omega
            · have k1 : ((Z : Int) == 1) = false := by simp; omega
              have HZ1 : Hid (Z ≠ 1) := hZ1
              clear hZ1
              have z1 : IntKind.i64.wrap ((Z : Int) / 2) = (Z : Int) / 2 := by rw [IntKind.wrap_i64]; omega
              have z2 : IntKind.i64.wrap (-((Z : Int) / 2)) = -((Z : Int) / 2) := by rw [IntKind.wrap_i64]; omega
              have hpar : (((Z : Int) % 2 == 1) = true ∧ Hid (unf Z = -((Z : Int) / 2))) ∨ (((Z : Int) % 2 == 1) = false ∧ Hid (unf Z = (Z : Int) / 2)) := by
                rcases Nat.mod_two_eq_zero_or_one Z with h | h
                · refine Or.inr ⟨by simp; omega, ?_⟩
                  show unf Z = _
                  unfold unf; rw [if_neg (by omega)]; omega
                · refine Or.inl ⟨by simp; omega, ?_⟩
                  show unf Z = _
                  unfold unf; rw [if_pos (by omega)]; omega
              have hbd := bytes_drop HM.out HB.out (s := i + 1) (by omega) hcap
              have hO5 := OwnB.nil wr wr.heap.size
              have hN5 : ([] : List Nat).length + (bs.drop (i + 1)).length = M - (i + 1) := by have := HM.out; simp; omega
              have hNN : M - (i + 1) ≤ 1099511627776 := by omega
              rcases f9 with ⟨rfl, f1⟩ | f9
              · have b2' : IntKind.u64.wrap ((q : Int) * 9223372036854775808) = (Y : Int) := by simpa using b2
                have f2 : ¬ (1 : Int) < (x : Int) := by omega
                have g3 : ((x : Int) == 0) = false := by simp; omega
                clear b2 m1 w7 g2
                rcases hpar with ⟨hp, hu⟩ | ⟨hp, hu⟩
                · by_cases hcs : cap = 10
                  · subst hcs
                    clear hbd hN5 hO5
                    go_wp2
                    go_ret3
                    have ed : bs.drop (10) = [] := List.drop_eq_nil_of_le (by have := HM.out; omega)
                    exact OutR.sok HJ3.out HZ1.out hu.out ⟨none, 0, 0, by rw [ed]; rfl, rfl, by rw [ed]; exact OwnB.nil _ _, Below.refl _ _⟩
                  · have hBd : BytesAt wr (.slice (some ⟨sb, so + 10, none⟩) (M - 10) (cap - 10)) (bs.drop (10)) := hbd.2 hcs
                    clear hbd
                    go_wp2_with (first
                      | ((with_reducible refine wpL_append wr.heap.size (.slice none 0 0) (.slice (some ⟨sb, so + 10, none⟩) (M - 10) (cap - 10)) [] (bs.drop (10)) (M - 10) hN5 ?_ ?_ hO5 hBd hNN (by simp) ?_); (rfl); (rfl); (intro pm cm w5 hO6 hb6); (simp only [Act.put, List.setIfInBounds_toArray, List.set_cons_zero, List.set_cons_succ])))
                    go_ret3
                    exact OutR.sok HJ3.out HZ1.out hu.out ⟨pm, M - 10, cm, by have := HM.out; simp; omega, rfl, hO6, hb6⟩
                · by_cases hcs : cap = 10
                  · subst hcs
                    clear hbd hN5 hO5
                    go_wp2
                    go_ret3
                    have ed : bs.drop (10) = [] := List.drop_eq_nil_of_le (by have := HM.out; omega)
                    exact OutR.sok HJ3.out HZ1.out hu.out ⟨none, 0, 0, by rw [ed]; rfl, rfl, by rw [ed]; exact OwnB.nil _ _, Below.refl _ _⟩
                  · have hBd : BytesAt wr (.slice (some ⟨sb, so + 10, none⟩) (M - 10) (cap - 10)) (bs.drop (10)) := hbd.2 hcs
                    clear hbd
                    go_wp2_with (first
                      | ((with_reducible refine wpL_append wr.heap.size (.slice none 0 0) (.slice (some ⟨sb, so + 10, none⟩) (M - 10) (cap - 10)) [] (bs.drop (10)) (M - 10) hN5 ?_ ?_ hO5 hBd hNN (by simp) ?_); (rfl); (rfl); (intro pm cm w5 hO6 hb6); (simp only [Act.put, List.setIfInBounds_toArray, List.set_cons_zero, List.set_cons_succ])))
                    go_ret3
                    exact OutR.sok HJ3.out HZ1.out hu.out ⟨pm, M - 10, cm, by have := HM.out; simp; omega, rfl, hO6, hb6⟩
              · rcases g2 with g2 | ⟨rfl, rfl⟩
                · clear HQ0 HY0 HZ0 HN
                  rcases hpar with ⟨hp, hu⟩ | ⟨hp, hu⟩
                  · by_cases hcs : cap = i + 1
                    · subst hcs
                      clear hbd hN5 hO5
                      go_wp2
                      go_ret3
                      have ed : bs.drop (i + 1) = [] := List.drop_eq_nil_of_le (by have := HM.out; omega)
                      exact OutR.sok HJ3.out HZ1.out hu.out ⟨none, 0, 0, by rw [ed]; rfl, rfl, by rw [ed]; exact OwnB.nil _ _, Below.refl _ _⟩
                    · have hBd : BytesAt wr (.slice (some ⟨sb, so + (i + 1), none⟩) (M - (i + 1)) (cap - (i + 1))) (bs.drop (i + 1)) := hbd.2 hcs
                      clear hbd
                      go_wp2_with (first
                        | ((with_reducible refine wpL_append wr.heap.size (.slice none 0 0) (.slice (some ⟨sb, so + (i + 1), none⟩) (M - (i + 1)) (cap - (i + 1))) [] (bs.drop (i + 1)) (M - (i + 1)) hN5 ?_ ?_ hO5 hBd hNN (by simp) ?_); (rfl); (rfl); (intro pm cm w5 hO6 hb6); (simp only [Act.put, List.setIfInBounds_toArray, List.set_cons_zero, List.set_cons_succ])))
                      go_ret3
                      exact OutR.sok HJ3.out HZ1.out hu.out ⟨pm, M - (i + 1), cm, by have := HM.out; simp; omega, rfl, hO6, hb6⟩
                  · by_cases hcs : cap = i + 1
                    · subst hcs
                      clear hbd hN5 hO5
                      go_wp2
                      go_ret3
                      have ed : bs.drop (i + 1) = [] := List.drop_eq_nil_of_le (by have := HM.out; omega)
                      exact OutR.sok HJ3.out HZ1.out hu.out ⟨none, 0, 0, by rw [ed]; rfl, rfl, by rw [ed]; exact OwnB.nil _ _, Below.refl _ _⟩
                    · have hBd : BytesAt wr (.slice (some ⟨sb, so + (i + 1), none⟩) (M - (i + 1)) (cap - (i + 1))) (bs.drop (i + 1)) := hbd.2 hcs
                      clear hbd
                      go_wp2_with (first
                        | ((with_reducible refine wpL_append wr.heap.size (.slice none 0 0) (.slice (some ⟨sb, so + (i + 1), none⟩) (M - (i + 1)) (cap - (i + 1))) [] (bs.drop (i + 1)) (M - (i + 1)) hN5 ?_ ?_ hO5 hBd hNN (by simp) ?_); (rfl); (rfl); (intro pm cm w5 hO6 hb6); (simp only [Act.put, List.setIfInBounds_toArray, List.set_cons_zero, List.set_cons_succ])))
                      go_ret3
                      exact OutR.sok HJ3.out HZ1.out hu.out ⟨pm, M - (i + 1), cm, by have := HM.out; simp; omega, rfl, hO6, hb6⟩
                · obtain rfl : q = 0 := HQ0.out rfl
                  obtain rfl : Y = 0 := HY0.out rfl
                  obtain rfl : n = 0 := by have h := HN.out; simp at h; exact h
                  obtain rfl : Z = 0 := HZ0.out
                  have c0'' : wr.cell? ⟨sb, so, none⟩ = some (.int .u8 0) := by simpa using c0'
                  have e2 : (0 : Int) < (M : Int) := by omega
                  have hu : Hid (unf 0 = 0) := rfl
                  clear c0' e1 e10 b1 b2 b3 w7 m1 HQ0 HY0 HZ0 HN g1 f9 hpar z1 z2 k1
                  by_cases hcs : cap = 1
                  · subst hcs
                    clear hbd hN5 hO5
                    go_wp2
                    go_ret3
                    have ed : bs.drop (0 + 1) = [] := List.drop_eq_nil_of_le (by have := HM.out; omega)
                    exact OutR.sok HJ3.out HZ1.out hu.out ⟨none, 0, 0, by rw [ed]; rfl, rfl, by rw [ed]; exact OwnB.nil _ _, Below.refl _ _⟩
                  · have hBd : BytesAt wr (.slice (some ⟨sb, so + 1, none⟩) (M - 1) (cap - 1)) (bs.drop 1) := by simpa using hbd.2 (by omega)
                    clear hbd
                    go_wp2_with (first
                      | ((with_reducible refine wpL_append wr.heap.size (.slice none 0 0) (.slice (some ⟨sb, so + 1, none⟩) (M - 1) (cap - 1)) [] (bs.drop (1)) (M - 1) hN5 ?_ ?_ hO5 hBd hNN (by simp) ?_); (rfl); (rfl); (intro pm cm w5 hO6 hb6); (simp only [Act.put, List.setIfInBounds_toArray, List.set_cons_zero, List.set_cons_succ])))
                    go_ret3
                    exact OutR.sok HJ3.out HZ1.out hu.out ⟨pm, M - 1, cm, by have := HM.out; simp; omega, rfl, hO6, hb6⟩
    · have e1 : ¬ (i : Int) < (M : Int) := by omega
      have HJ3 : Hid (join bs 0 0 = none) := by
        rw [hj.out, List.drop_eq_nil_of_le (by have := HM.out; omega)]; exact rfl
      clear hj
      go_wp2
      go_ret3
      exact OutR.sno (fun m s h => by rw [HJ3.out] at h; cases h) (OutR.bad _ _)
end Go.Proofs.Ytpiflgbcbhnmpaa
