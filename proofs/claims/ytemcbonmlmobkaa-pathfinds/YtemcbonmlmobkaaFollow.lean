/- The way back from the numbers: follow. -/
import Derived.Test.YtemcbonmlmobkaaSearch
namespace Go.Proofs.Ytemcbonmlmobkaa
open Go.RowKit
/-- The first neighbour that is closer. -/
theorem way_first {m : Mp} {bl : List Cl} {a b : Cl} {f : Cl → Option Nat} (h : Meas m bl a b f) {L : Nat} (hL : f a = some L) {j : Nat} (hj : j < L) {c : Cl} (hd : ds m bl b (j + 1) c = true) :
    ∃ x, (nr m c).find? (fun x => f x == some j) = some x ∧ way m bl b (j + 1) c = x :: way m bl b j x ∧ ds m bl b j x = true ∧ x ∈ nr m c := by
  obtain ⟨_, _, hs⟩ := h.some L hL
  have e : (nr m c).find? (fun x => f x == some j) = (nr m c).find? (fun x => (x == b || pass m bl x) && ds m bl b j x) := by
    congr 1
    funext x
    rw [Bool.eq_iff_iff, beq_iff_eq, hs j hj x, Bool.and_eq_true, Bool.or_eq_true, beq_iff_eq]
  obtain ⟨y, hy, hp, hyd⟩ := ds_succ hd
  cases hf : (nr m c).find? (fun x => (x == b || pass m bl x) && ds m bl b j x) with
  | none =>
    rw [List.find?_eq_none] at hf
    refine absurd ?_ (hf y hy)
    rw [Bool.and_eq_true, Bool.or_eq_true, beq_iff_eq]
    exact ⟨hp, hyd⟩
  | some x =>
    have h1 := List.find?_some hf
    rw [Bool.and_eq_true] at h1
    refine ⟨x, by rw [e, hf], ?_, h1.2, List.mem_of_find?_eq_some hf⟩
    rw [way, hf]
theorem find_at {l : List Cl} {p : Cl → Bool} {x : Cl} (h : l.find? p = some x) {k : Nat} (hk : k < l.length) (hn : ∀ i, i < k → p (l.getD i (0, 0)) = false) (hp : p (l.getD k (0, 0)) = true) : l.getD k (0, 0) = x := by
  induction l generalizing k with
  | nil => simp at hk
  | cons y r ih =>
    cases k with
    | zero =>
      simp only [List.getD_cons_zero] at hp ⊢
      rw [List.find?_cons, hp] at h
      exact Option.some.inj h
    | succ k =>
      have h0 := hn 0 (by omega)
      simp only [List.getD_cons_zero] at h0
      rw [List.find?_cons, h0] at h
      simp only [List.getD_cons_succ] at hp ⊢
      exact ih h (by simpa using hk) (fun i hi => by simpa using hn (i + 1) (by omega)) hp
theorem find_no {l : List Cl} {p : Cl → Bool} {x : Cl} (h : l.find? p = some x) (hn : ∀ i, i < l.length → p (l.getD i (0, 0)) = false) : False := by
  have h1 := List.find?_some h
  obtain ⟨i, hi, e⟩ := List.getElem_of_mem (List.mem_of_find?_eq_some h)
  have := hn i hi
  rw [List.getD_eq_getElem?_getD, List.getElem?_eq_getElem hi, Option.getD_some, e, h1] at this
  cases this
theorem turn_two (w : World) (b : Nat) (x y : Value) : Turn b w ((w.setCell ⟨b, 0, none⟩ x).setCell ⟨b, 1, none⟩ y) := by
  refine ⟨rfl, rfl, rfl, by simp, fun k hk => ?_⟩
  rw [Below.heap_setCell _ _ _ _ hk, Below.heap_setCell _ _ _ _ hk]
set_option maxHeartbeats 4000000 in
theorem follow_any (m : Mp) (v : Value) (bl : List Cl) (ax ay bx by_ : Int) (g : Nat) (f : Cl → Option Nat) (L : Nat) (w : World) (hm : MapAt w v m) (hF : FMap w g (valF f)) (hM : Meas m bl (ax, ay) (bx, by_) f) (hL : f (ax, ay) = some L) :
    Calls Try.prog 22 #[v, .map (some g), C ax ay] w fun e w' => OutOwn w (way m bl (bx, by_) L (ax, ay)) e w' := by
  have h35 : Hid (∀ x y W, Below w.heap.size w W → Calls Try.prog 35 #[v, C x y] W fun e w' => OutOwn W (near m x y) e w') := fun x y W h => near_own m v x y W (hm.below h)
  have HFM := hid (fun W (h : Below w.heap.size w W) => hF.below h hF.lt)
  obtain ⟨hd0, hL4, -⟩ := hM.some L hL
  have HD0 := hid hd0
  have HWF : Hid (∀ j, j < L → ∀ x y, ds m bl (bx, by_) (j + 1) (x, y) = true → ∃ c : Cl, (near m x y).find? (fun x => f x == some j) = some c ∧ way m bl (bx, by_) (j + 1) (x, y) = c :: way m bl (bx, by_) j c ∧ ds m bl (bx, by_) j c = true) := fun j hj x y hd => by
    obtain ⟨c, h1, h2, h3, _⟩ := way_first hM hL hj hd
    exact ⟨c, h1, h2, h3⟩
  have HNL : Hid (∀ x y, (near m x y).length ≤ 4) := fun x y => by
    unfold near
    split
    · exact Nat.le_trans (List.length_filter_le _ _) (by simp [nbs])
    · simp
  have HLa := hid (fun (_ : Nat) => hL)
  obtain ⟨p, c, q, d, rfl, -, -⟩ := hm
  unfold OutOwn
  obtain ⟨S1, hS1⟩ : ∃ z, z = Value.slice p m.ts.length c := ⟨_, rfl⟩
  obtain ⟨S2, hS2⟩ : ∃ z, z = Value.slice q m.os.length d := ⟨_, rfl⟩
  obtain ⟨mW, hmW⟩ : ∃ z, z = m.W := ⟨_, rfl⟩
  obtain ⟨mH, hmH⟩ : ∃ z, z = m.H := ⟨_, rfl⟩
  rw [← hS1, ← hS2, ← hmW, ← hmH] at h35 ⊢
  clear hS1 hS2 hmW hmH hM hL hF hd0
  unfold C at *
  have hL0 : (0 : Int) ≤ (L : Int) := Int.natCast_nonneg L
  have hL1 : -9223372036854775808 ≤ (L : Int) - 1 := by omega
  go_enter Try.func22, Try.ntmps22
  go_upto_region 2 with fail
  obtain ⟨W, hW⟩ : ∃ W, W = ((w.alloc (.cells #[Value.int .i64 mW, .int .i64 mH, S1, S2] 24)).alloc (.cells #[Value.int .i64 ax, .int .i64 ay] 27)) := ⟨_, rfl⟩
  obtain ⟨B, hB⟩ : ∃ B, B = w.heap.size := ⟨_, rfl⟩
  rw [← hW, ← hB]
  obtain ⟨hk, hbe⟩ := map_cell_box w mW mH S1 S2 ax ay W B hW hB
  obtain ⟨a0, a1, a2, a3, a4, a5⟩ := hk W (Below.refl _ _)
  have HK := hid hk
  have HBE := hid hbe
  have HB := hid (fun (_ : Nat) => hB)
  obtain ⟨cb, hcb⟩ : ∃ cb, cb = W.heap.size := ⟨_, rfl⟩
  have hBc : B + 2 = cb := by rw [hcb, hW, hB]; simp
  obtain ⟨V, hV⟩ : ∃ V, V = W.alloc (.cells #[Value.int .i64 ax, .int .i64 ay] 27) := ⟨_, rfl⟩
  have HBV : Hid (Below cb W V) := by rw [hV, hcb]; exact (Below.refl _ _).alloc (Nat.le_refl _) _
  have HCV : Hid (Blk V cb [.int .i64 ax, .int .i64 ay] 27) := by rw [hV, hcb]; exact Blk.new _ _ _
  rw [← hcb] at HK HBE
  obtain ⟨-, -, -, -, c4, c5⟩ := HK.out V HBV.out
  have HFV := hid (HFM.out V (HBE.out V HBV.out))
  have HV := hid (fun (_ : Nat) => hV)
  have HCB := hid (fun (_ : Nat) => hcb)
  clear hV hW hB hk hbe hcb
  go_upto_region 3 with fail
  rw [← HV.out 0, ← HCB.out 0]
  clear HV HCB a0 a1 a2 a3 a4 a5
  go_upto_region 4 with (at_lookup; (with_reducible refine wpL_look1 3 Try.underlying47 (.int .i64 0) zero3 g (valF f) ax ay ?_ ?_ HFV.out ?_); (rfl); (rfl); (rw [valF_get, HLa.out 0, Option.getD_some]))
  have HO0 : Hid (OwnC V (cb + 1) (.slice none 0 0) []) := OwnC.nil _ _
  go_loopw [9, 7] (fun iv lv wr => ∃ j x y xs, iv = .int .i64 (((j : Nat) : Int) - 1) ∧ j ≤ L ∧ Hid (ds m bl (bx, by_) j (x, y) = true) ∧ Hid (xs ++ way m bl (bx, by_) j (x, y) = way m bl (bx, by_) L (ax, ay)) ∧ Hid (xs.length + j = L) ∧ Hid (Below cb W wr) ∧ Hid (Blk wr cb [.int .i64 x, .int .i64 y] 27) ∧ Hid (OwnC wr (cb + 1) lv xs)) (fun iv _ _ => (intOf iv + 1).toNat)
  case atStart => exact ⟨L, ax, ay, [], rfl, Nat.le_refl _, HD0, by exact hid rfl, hid (by simp), HBV, HCV, HO0⟩
  case round =>
    clear HBV HCV HO0 HFV HD0
    obtain ⟨j, x, y, xs, rfl, hjL, HDS, HWY, HLN, HB1, HC1, HO1⟩ := hrel
    cases j with
    | zero =>
      go_wp2
      go_ret
      have HE := HWY.out
      rw [way, List.append_nil] at HE
      rw [HE] at HO1
      have HEE := HBE.out _ HB1.out
      have hsz : w.heap.size ≤ cb + 1 := by have := HB.out 0; omega
      have HBo := HB.out 0
      first
        | exact ⟨_, rfl, HO1.out.mono hsz, HEE⟩
        | (rw [← HBo]; rw [← HBo] at HEE hsz; exact ⟨_, rfl, HO1.out.mono hsz, HEE⟩)
    | succ j =>
      have ej : ((j + 1 : Nat) : Int) - 1 = (j : Int) := by omega
      rw [ej]
      have hj0 : (0 : Int) ≤ (j : Int) := Int.natCast_nonneg j
      have hj4 : (j : Int) ≤ 400 := by omega
      obtain ⟨⟨n1, n2⟩, hfi, hway, hdn⟩ := HWF.out j (by omega) x y HDS.out
      have HFI := hid hfi
      have HWY2 : Hid ((xs ++ [(n1, n2)]) ++ way m bl (bx, by_) j (n1, n2) = way m bl (bx, by_) L (ax, ay)) := by
        rw [← HWY.out, hway]; exact hid (by simp)
      have HDN := hid hdn
      obtain ⟨a0, a1, a2, a3, -, -⟩ := HK.out wr HB1.out
      have s0 : wr.cell? ⟨cb, 0, none⟩ = some (.int .i64 x) := HC1.out.cell 0
      have s1 : wr.cell? ⟨cb, 1, none⟩ = some (.int .i64 y) := HC1.out.cell 1
      clear hfi hway hdn HDS HWY ej
      go_wp2_with fail
      refine Calls.mono (h35.out x y wr (HBE.out _ HB1.out)) ?_
      rintro e w3 ⟨vn, rfl, hon, hbn⟩
      obtain ⟨l, hle⟩ : ∃ l, l = near m x y := ⟨_, rfl⟩
      rw [← hle] at hon
      have HLE := hid (fun (_ : Nat) => hle)
      rw [← hle] at HFI
      have HL4 : Hid (l.length ≤ 4) := by rw [hle]; exact HNL.out x y
      clear hle
      obtain ⟨pn, capn, rfl⟩ := hon.form
      have HB3 := hid (HB1.out.trans (hbn.mono (Nat.le_of_lt HC1.out.lt)))
      have HC3 := hid (HC1.out.below hbn HC1.out.lt)
      have HO3 := hid (HO1.out.below hbn)
      have HOn := hid hon
      clear hon hbn a0 a1 a2 a3 s0 s1 HB1 HC1 HO1
      go_upto_region 7 with fail
      have HI0 : Hid (∀ i, i < 0 → (f (l.getD i (0, 0)) == some j) = false) := fun i hi => by omega
      have HR0 := hid (Below.refl w3.heap.size w3)
      go_loopw [27] (fun iv wr => ∃ k, iv = .int .i64 ((k : Nat) : Int) ∧ k ≤ l.length ∧ Hid (∀ i, i < k → (f (l.getD i (0, 0)) == some j) = false) ∧ Hid (Below w3.heap.size w3 wr)) (fun iv _ => 5 - (intOf iv).toNat)
      case atStart => exact ⟨0, rfl, by omega, HI0, HR0⟩
      case round =>
        clear HI0 HR0
        obtain ⟨k, rfl, hkl, HIk, HR⟩ := hrel
        have hl4 := HL4.out
        by_cases hl : k < l.length
        · have hl' : (k : Int) < (l.length : Int) := by omega
          have hk0 : (0 : Int) ≤ (k : Int) := by omega
          have hk4 : (k : Int) + 1 ≤ 4 := by omega
          have hwk : wrap64 ((k : Int) + 1) = (k : Int) + 1 := wrap_small ⟨by omega, by omega⟩
          obtain ⟨nb, no, rfl, d0, d1⟩ := (HOn.out.below HR.out).cells.at hl
          have HFA := hid (fun (h : (f (l.getD k (0, 0)) == some j) = true) => find_at HFI.out hl HIk.out h)
          have HIn : Hid ((f (l.getD k (0, 0)) == some j) = false → ∀ i, i < k + 1 → (f (l.getD i (0, 0)) == some j) = false) := fun h i hi => by
            rcases Nat.lt_or_ge i k with h1 | h1
            · exact HIk.out i h1
            · obtain rfl : i = k := by omega
              exact h
          generalize hnn : l.getD k (0, 0) = nn at *
          obtain ⟨z1, z2⟩ := nn
          simp only at d0 d1
          obtain ⟨U, hU⟩ : ∃ U, U = wr.alloc (.cells #[Value.int .i64 z1, .int .i64 z2] 27) := ⟨_, rfl⟩
          obtain ⟨gg, hg⟩ : ∃ gg, gg = wr.heap.size := ⟨_, rfl⟩
          have HUB : Hid (Below gg wr U) := by rw [hU, hg]; exact (Below.refl _ _).alloc (Nat.le_refl _) _
          have HUG : Hid (Blk U gg [.int .i64 z1, .int .i64 z2] 27) := by rw [hU, hg]; exact Blk.new _ _ _
          have HRU := hid (HR.out.trans (HUB.out.mono (by rw [hg]; exact HR.out.size)))
          have HBU := hid (HB3.out.trans (HRU.out.mono (Nat.le_of_lt HC3.out.lt)))
          have HFU := hid (HFM.out U (HBE.out U HBU.out))
          have HU2 := hid (fun (_ : Nat) => hU)
          have HG2 := hid (fun (_ : Nat) => hg)
          clear hU hg hnn
          go_upto_region 9 with fail
          rw [← HU2.out 0, ← HG2.out 0]
          clear HU2 HG2 d0 d1 HUB
          have g0 : U.cell? ⟨gg, 0, none⟩ = some (.int .i64 z1) := HUG.out.cell 0
          have g1 : U.cell? ⟨gg, 1, none⟩ = some (.int .i64 z2) := HUG.out.cell 1
          cases hfn : f (z1, z2) with
          | none =>
            rw [hfn] at HIn
            have HI2 := hid (HIn.out rfl)
            go_wp2_with (at_lookup; (with_reducible refine wpL_look2 3 Try.underlying47 (.int .i64 0) zero3 g (valF f) z1 z2 ?_ ?_ HFU.out ?_); (rfl); (rfl); (rw [valF_get, valF_some, hfn, Option.isSome_none]))
            go_roundw
            case rel => exact ⟨k + 1, by simp, by omega, HI2, HRU⟩
            case measure => simp [intOf]; omega
          | some dv =>
            rw [hfn] at HIn HFA
            by_cases hdj : dv = j
            · subst hdj
              have hz := HFA.out (by simp)
              obtain ⟨rfl, rfl⟩ : z1 = n1 ∧ z2 = n2 := by simpa using hz
              have HCU := hid (HC3.out.below HRU.out HC3.out.lt)
              have HOU := hid (HO3.out.below HRU.out)
              have e0 : U.cell? ⟨cb, 0, none⟩ = some (.int .i64 x) := HCU.out.cell 0
              have e1 : U.cell? ⟨cb, 1, none⟩ = some (.int .i64 y) := HCU.out.cell 1
              have z0 : U.frozen? ⟨cb, 0, none⟩ = false := HCU.out.frozen 0
              have z1' : U.frozen? ⟨cb, 1, none⟩ = false := HCU.out.frozen 1
              go_upto_region 13 with (at_lookup; (with_reducible refine wpL_look2 3 Try.underlying47 (.int .i64 0) zero3 g (valF f) z1 z2 ?_ ?_ HFU.out ?_); (rfl); (rfl); (rw [valF_get, valF_some, hfn, Option.isSome_some, Option.getD_some]))
              obtain ⟨w4, hw4⟩ : ∃ w4, w4 = ((U.setCell ⟨cb, 0, none⟩ (.int .i64 z1)).setCell ⟨cb, 1, none⟩ (.int .i64 z2)) := ⟨_, rfl⟩
              rw [← hw4]
              have ht4 : Turn cb U w4 := by rw [hw4]; exact turn_two _ _ _ _
              have HC4 : Hid (Blk w4 cb [.int .i64 z1, .int .i64 z2] 27) := by rw [hw4]; exact (HCU.out.set 0 _).set 1 _
              have HB4 : Hid (Below cb W w4) := HBU.out.trans (ht4.below (Nat.le_refl _))
              have HO4 : Hid (OwnC w4 (cb + 1) u7 xs) := HOU.out.stay fun i hi => ht4.block i (by have := (HOU.out.block i hi).1; omega)
              obtain ⟨qp, qc, rfl⟩ := HO4.out.form
              have g4 : w4.cell? ⟨cb, 0, none⟩ = some (.int .i64 z1) := HC4.out.cell 0
              have g5 : w4.cell? ⟨cb, 1, none⟩ = some (.int .i64 z2) := HC4.out.cell 1
              clear hw4 ht4 e0 e1 z0 z1' HCU HOU g0 g1 HB3 HC3 HO3 HOn HR HRU HBU HFU HUG HIk HIn HFA HFI HLE hz
              obtain ⟨Z, hZ⟩ : ∃ Z, Z = w4.alloc (.cells #[Value.int .i64 z1, .int .i64 z2] 27) := ⟨_, rfl⟩
              have HZB : Hid (Below w4.heap.size w4 Z) := by rw [hZ]; exact (Below.refl _ _).alloc (Nat.le_refl _) _
              have HZG : Hid (Blk Z w4.heap.size [.int .i64 (z1, z2).1, .int .i64 (z1, z2).2] 27) := by rw [hZ]; exact Blk.new _ _ _
              have HD4 : Hid (cb + 1 ≤ w4.heap.size) := HC4.out.lt
              have HDZ : Hid (cb + 1 ≤ Z.heap.size) := Nat.le_trans HD4.out HZB.out.size
              have HBZ := hid (HB4.out.trans (HZB.out.mono (by have := HD4.out; omega)))
              have HOZ : Hid (OwnC Z (cb + 1) (.slice qp xs.length qc) xs) := HO4.out.below HZB.out
              have HCZ := hid (HC4.out.below HZB.out HC4.out.lt)
              have HSL : Hid (xs.length ≤ 1000000) := hid (by have := HLN.out; omega)
              rw [hZ] at HZG HDZ HBZ HOZ HCZ
              clear hZ HZB
              go_upto_region 5 with (first
                | ((with_reducible refine wpL_appendC (cb + 1) (.slice qp xs.length qc) w4.heap.size xs (z1, z2) ?_ ?_ HOZ.out HZG.out HSL.out HDZ.out ?_); (rfl); (rfl); (intro v' w5 ho5 hg5); (have HB5 : Hid (Below cb W w5) := HBZ.out.trans ((hg5.belowC HOZ.out HDZ.out).mono (Nat.le_succ cb))); (have HC5 := hid (HCZ.out.below (hg5.belowC HOZ.out HDZ.out) (Nat.lt_succ_self cb))); (have HO5 := hid ho5); clear ho5 hg5; (simp only [Act.put, List.setIfInBounds_toArray, List.set_cons_zero, List.set_cons_succ])))
              have HLN2 : Hid ((xs ++ [(z1, z2)]).length + dv = L) := hid (by have := HLN.out; simp; omega)
              go_wp2
              go_roundw
              case rel => exact ⟨dv, z1, z2, xs ++ [(z1, z2)], rfl, by omega, HDN, HWY2, HLN2, HB5, HC5, HO5⟩
              case measure => simp [intOf]
            · have hne : ((dv : Int) == (j : Int)) = false := by simp; omega
              have HI2 := hid (HIn.out (by simpa using hdj))
              go_wp2_with (at_lookup; (with_reducible refine wpL_look2 3 Try.underlying47 (.int .i64 0) zero3 g (valF f) z1 z2 ?_ ?_ HFU.out ?_); (rfl); (rfl); (rw [valF_get, valF_some, hfn, Option.isSome_some, Option.getD_some]))
              go_roundw
              case rel => exact ⟨k + 1, by simp, by omega, HI2, HRU⟩
              case measure => simp [intOf]; omega
        · obtain rfl : k = l.length := by omega
          exact (find_no HFI.out HIk.out).elim
end Go.Proofs.Ytemcbonmlmobkaa
