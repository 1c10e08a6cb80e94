/- The shortest way: Find and Step. -/
import Derived.Test.YtemcbonmlmobkaaFollow
namespace Go.Proofs.Ytemcbonmlmobkaa
open Go.RowKit
theorem findV_form {m : Mp} {bl : List Cl} {a b : Cl} {most : Int} (h : formed m = false) : findV m bl a b most = ([], 4) := by unfold findV; rw [if_pos h]
theorem findV_range {m : Mp} {bl : List Cl} {a b : Cl} {most : Int} (h : formed m = true) (h2 : (inn m a && inn m b) = false) : findV m bl a b most = ([], 2) := by unfold findV; rw [if_neg (by simp [h]), if_pos h2]
theorem findV_none {m : Mp} {bl : List Cl} {a b : Cl} {most : Int} (h : formed m = true) (h2 : (inn m a && inn m b) = true) (hn : ∀ n, wy m bl b n a = false) : findV m bl a b most = ([], 3) := by
  unfold findV
  rw [if_neg (by simp [h]), if_neg (by simp [h2])]
  have : (List.range 1001).find? (fun n => wy m bl b n a) = none := by
    rw [List.find?_eq_none]
    intro n _
    rw [hn n]; exact Bool.false_ne_true
  rw [this]
theorem find_range {p : Nat → Bool} {L N : Nat} (hL : L < N) (hp : p L = true) (hn : ∀ k, k < L → p k = false) : (List.range N).find? p = some L := by
  rw [List.find?_range_eq_some]
  exact ⟨hp, List.mem_range.2 hL, fun k hk => by rw [hn k hk]; rfl⟩
theorem findV_some {m : Mp} {bl : List Cl} {a b : Cl} {most : Int} {L : Nat} (h : formed m = true) (h2 : (inn m a && inn m b) = true) (hd : ds m bl b L a = true) (hL : L ≤ 400) : findV m bl a b most = if (L : Int) > most then ([], 12) else (way m bl b L a, 0) := by
  unfold findV
  rw [if_neg (by simp [h]), if_neg (by simp [h2])]
  rw [ds_iff] at hd
  rw [find_range (by omega) hd.1 hd.2]
def OutFind (w : World) (r : List Cl × Int) (e : Ending) (w' : World) : Prop := ∃ s, e = .returned (.tuple #[s, .int .i64 r.2]) ∧ OwnC w' w.heap.size s r.1 ∧ Below w.heap.size w w'
set_option maxHeartbeats 4000000 in
theorem find_any (m : Mp) (v u : Value) (bl : List Cl) (ax ay bx by_ most : Int) (w : World) (hm : MapAt w v m) (hbl : CellsAt w u bl) (hN : bl.length ≤ 1000) :
    Calls Try.prog 10 #[v, u, C ax ay, C bx by_, .int .i64 most] w fun e w' => OutFind w (findV m bl (ax, ay) (bx, by_) most) e w' := by
  have h20 : Hid (∀ W, Below w.heap.size w W → Calls Try.prog 20 #[v] W fun e w' => Out W (.bool (formed m)) e w') := fun W h => formed_any m v W (hm.below h)
  have h16 : Hid (∀ x y W, Below w.heap.size w W → Calls Try.prog 16 #[v, C x y] W fun e w' => Out W (.bool (formed m && inn m (x, y))) e w') := fun x y W h => inside_any m v x y W (hm.below h)
  have h21 : Hid (formed m = true → inn m (ax, ay) = true → inn m (bx, by_) = true → ∀ W, Below w.heap.size w W → Calls Try.prog 21 #[v, u, C ax ay, C bx by_] W fun e w' => OutM W m bl (ax, ay) (bx, by_) e w') := fun hf ha hb W h => measure_any m v u bl ax ay bx by_ W (hm.below h) (hbl.below h) hf hN ha hb
  have h22 : Hid (∀ g f L W, Below w.heap.size w W → FMap W g (valF f) → Meas m bl (ax, ay) (bx, by_) f → f (ax, ay) = some L → Calls Try.prog 22 #[v, .map (some g), C ax ay] W fun e w' => OutOwn W (way m bl (bx, by_) L (ax, ay)) e w') := fun g f L W h hF hM hL => follow_any m v bl ax ay bx by_ g f L W (hm.below h) hF hM hL
  have HV1 : Hid (formed m = false → findV m bl (ax, ay) (bx, by_) most = ([], 4)) := findV_form
  have HV2 : Hid (formed m = true → (inn m (ax, ay) && inn m (bx, by_)) = false → findV m bl (ax, ay) (bx, by_) most = ([], 2)) := findV_range
  have HV3 : Hid (formed m = true → (inn m (ax, ay) && inn m (bx, by_)) = true → (∀ n, wy m bl (bx, by_) n (ax, ay) = false) → findV m bl (ax, ay) (bx, by_) most = ([], 3)) := findV_none
  have HV4 : Hid (∀ L, formed m = true → (inn m (ax, ay) && inn m (bx, by_)) = true → ds m bl (bx, by_) L (ax, ay) = true → L ≤ 400 → findV m bl (ax, ay) (bx, by_) most = if (L : Int) > most then ([], 12) else (way m bl (bx, by_) L (ax, ay), 0)) := fun L h1 h2 h3 h4 => findV_some h1 h2 h3 h4
  generalize findV m bl (ax, ay) (bx, by_) most = R at *
  obtain ⟨p, c, q, d, rfl, -, -⟩ := hm
  obtain ⟨r, rc, rfl, -⟩ := hbl
  unfold OutFind
  obtain ⟨S1, hS1⟩ : ∃ z, z = Value.slice p m.ts.length c := ⟨_, rfl⟩
  obtain ⟨S2, hS2⟩ : ∃ z, z = Value.slice q m.os.length d := ⟨_, rfl⟩
  obtain ⟨S3, hS3⟩ : ∃ z, z = Value.slice r bl.length rc := ⟨_, rfl⟩
  obtain ⟨mW, hmW⟩ : ∃ z, z = m.W := ⟨_, rfl⟩
  obtain ⟨mH, hmH⟩ : ∃ z, z = m.H := ⟨_, rfl⟩
  rw [← hS1, ← hS2, ← hmW, ← hmH] at h20 h16 h21 h22 ⊢
  rw [← hS3] at h21 ⊢
  clear hS1 hS2 hS3 hmW hmH hN
  unfold C at *
  go_enter Try.func10, Try.ntmps10
  go_upto_region 1 with fail
  obtain ⟨W, hW⟩ : ∃ W, W = ((w.alloc (.cells #[Value.int .i64 mW, .int .i64 mH, S1, S2] 24)).alloc (.cells #[Value.int .i64 ax, .int .i64 ay] 27)).alloc (.cells #[Value.int .i64 bx, .int .i64 by_] 27) := ⟨_, rfl⟩
  obtain ⟨B, hB⟩ : ∃ B, B = w.heap.size := ⟨_, rfl⟩
  rw [← hW, ← hB]
  obtain ⟨hk, hbe, hsz⟩ := map_cells_box w mW mH S1 S2 ax ay bx by_ W B hW hB
  obtain ⟨a0, a1, a2, a3, -, -, -, -⟩ := hk W (Below.refl _ _)
  have HK := hid hk
  have HBE := hid hbe
  have HB := hid (fun (_ : Nat) => hB)
  clear hW hB hk hbe hsz
  go_wp2_with fail
  refine Calls.mono (h20.out _ (HBE.out W (Below.refl _ _))) ?_
  rintro e w1 ⟨rfl, hb1⟩
  have HB1 := hid hb1
  clear hb1 a0 a1 a2 a3
  rcases hf : formed m with _ | _
  · have hr := HV1.out hf
    subst hr
    go_wp2
    go_ret2
    have HE := HBE.out _ HB1.out
    have HBo := HB.out 0
    first
      | exact ⟨_, rfl, OwnC.nil _ _, HE⟩
      | (rw [← HBo]; rw [← HBo] at HE; exact ⟨_, rfl, OwnC.nil _ _, HE⟩)
  · obtain ⟨b0, b1, b2, b3, b4, b5, b6, b7⟩ := HK.out w1 HB1.out
    go_wp2_with fail
    refine Calls.mono (h16.out ax ay _ (HBE.out w1 HB1.out)) ?_
    rintro e w2 ⟨rfl, hb2⟩
    have HB2 := hid (HB1.out.trans (hb2.mono HB1.out.size))
    clear hb2 b0 b1 b2 b3 b4 b5 b6 b7 HB1
    rw [hf, Bool.true_and]
    rcases ha : inn m (ax, ay) with _ | _
    · have hr := HV2.out hf (by rw [ha]; rfl)
      subst hr
      go_wp2
      go_ret2
      have HE := HBE.out _ HB2.out
      have HBo := HB.out 0
      first
        | exact ⟨_, rfl, OwnC.nil _ _, HE⟩
        | (rw [← HBo]; rw [← HBo] at HE; exact ⟨_, rfl, OwnC.nil _ _, HE⟩)
    · obtain ⟨b0, b1, b2, b3, b4, b5, b6, b7⟩ := HK.out w2 HB2.out
      go_wp2_with fail
      refine Calls.mono (h16.out bx by_ _ (HBE.out w2 HB2.out)) ?_
      rintro e w3 ⟨rfl, hb3⟩
      have HB3 := hid (HB2.out.trans (hb3.mono HB2.out.size))
      clear hb3 b0 b1 b2 b3 b4 b5 b6 b7 HB2
      rw [hf, Bool.true_and]
      rcases hb : inn m (bx, by_) with _ | _
      · have hr := HV2.out hf (by rw [ha, hb]; rfl)
        subst hr
        go_wp2
        go_ret2
        have HE := HBE.out _ HB3.out
        have HBo := HB.out 0
        first
          | exact ⟨_, rfl, OwnC.nil _ _, HE⟩
          | (rw [← HBo]; rw [← HBo] at HE; exact ⟨_, rfl, OwnC.nil _ _, HE⟩)
      · obtain ⟨b0, b1, b2, b3, b4, b5, b6, b7⟩ := HK.out w3 HB3.out
        have hab : (inn m (ax, ay) && inn m (bx, by_)) = true := by rw [ha, hb]; rfl
        have H21 := hid (h21.out hf ha hb)
        have HV3' := hid (HV3.out hf hab)
        have HV4' := hid (fun L => HV4.out L hf hab)
        clear hab HV1 HV2 HV3 HV4 h21 h16 h20 hf ha hb
        go_wp2_with fail
        refine Calls.mono (H21.out _ (HBE.out w3 HB3.out)) ?_
        rintro e w4 ⟨g, f, rfl, hg, hF, hM, hb4⟩
        have HB4 := hid (HB3.out.trans (hb4.mono HB3.out.size))
        have HF4 := hid hF
        have HM4 := hid hM
        obtain ⟨b0, b1, b2, b3, b4, b5, b6, b7⟩ := HK.out w4 HB4.out
        clear hb4 HB3 hF hM hg
        cases hfa : f (ax, ay) with
        | none =>
          have hr := HV3'.out (HM4.out.none hfa)
          subst hr
          go_wp2_with (at_lookup; (with_reducible refine wpL_look2 3 Try.underlying47 (.int .i64 0) zero3 g (valF f) ax ay ?_ ?_ HF4.out ?_); (rfl); (rfl); (rw [valF_get, valF_some, hfa, Option.isSome_none]))
          go_ret2
          have HE := HBE.out _ HB4.out
          have HBo := HB.out 0
          first
            | exact ⟨_, rfl, OwnC.nil _ _, HE⟩
            | (rw [← HBo]; rw [← HBo] at HE; exact ⟨_, rfl, OwnC.nil _ _, HE⟩)
        | some L =>
          obtain ⟨hds, hL, -⟩ := HM4.out.some L hfa
          have hr := HV4'.out L hds hL
          by_cases hlm : (L : Int) > most
          · rw [if_pos hlm] at hr
            subst hr
            have hlm' : most < (L : Int) := hlm
            go_wp2_with (at_lookup; (with_reducible refine wpL_look2 3 Try.underlying47 (.int .i64 0) zero3 g (valF f) ax ay ?_ ?_ HF4.out ?_); (rfl); (rfl); (rw [valF_get, valF_some, hfa, Option.isSome_some, Option.getD_some]))
            go_ret2
            have HE := HBE.out _ HB4.out
            have HBo := HB.out 0
            first
              | exact ⟨_, rfl, OwnC.nil _ _, HE⟩
              | (rw [← HBo]; rw [← HBo] at HE; exact ⟨_, rfl, OwnC.nil _ _, HE⟩)
          · rw [if_neg hlm] at hr
            subst hr
            have hlm' : (most < (L : Int)) = False := by simp; omega
            have HFA := hid (fun (_ : Nat) => hfa)
            clear hds hlm
            go_wp2_with (at_lookup; (with_reducible refine wpL_look2 3 Try.underlying47 (.int .i64 0) zero3 g (valF f) ax ay ?_ ?_ HF4.out ?_); (rfl); (rfl); (rw [valF_get, valF_some, hfa, Option.isSome_some, Option.getD_some]))
            refine Calls.mono (h22.out g f L w4 (HBE.out _ HB4.out) HF4.out HM4.out (HFA.out 0)) ?_
            rintro e w5 ⟨s, rfl, ho, hb5⟩
            have HB5 := hid (HB4.out.trans (hb5.mono HB4.out.size))
            have HO5 : Hid (OwnC w5 w.heap.size s (way m bl (bx, by_) L (ax, ay))) := ho.mono (HBE.out _ HB4.out).size
            clear ho hb5
            go_wp2
            go_ret2
            have HE := HBE.out _ HB5.out
            have HBo := HB.out 0
            first
              | exact ⟨_, rfl, HO5.out, HE⟩
              | (rw [← HBo] at HO5 HE ⊢; exact ⟨_, rfl, HO5.out, HE⟩)
end Go.Proofs.Ytemcbonmlmobkaa
