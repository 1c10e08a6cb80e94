/- What Write does to a Hash. -/
import Derived.Test.YtpgckbjcacagdaaDoorHash
import Derived.Test.YtpgckbjcacagdaaDoorReady
import Derived.Deep.RegionHeld3
import Derived.Deep.DrawnRows
import Derived.Deep.DeepCutAuto
namespace Go.Proofs.YtpgckbjcacagdaaDoor
open Go.RowKit
attribute [local go_sem] run_add_U run_xor_U run_and_U run_or_U run_not_U run_shr_U run_shl_U run_xor_B run_or_B run_eql_B convBU
attribute [local go_sem] match_U match_B run_cells_U run_cells_B run_store_U run_store_B
attribute [local go_sem ↓] storeAt_U storeAt_B
attribute [local go_sem ↓] Go.wp_at_zero Go.wp_at_succ

theorem write_none (hb : Nat) (p : Option Addr) (cap : Nat) (w : World) :
    Calls Tryd.prog 17 #[.pointer (some ⟨hb, 0, none⟩), .slice p 0 cap] w fun e w' => e = .returned (.tuple #[]) ∧ w' = w := by
  go_enter Tryd.func17, Tryd.ntmps17
  go_wp2
  exact bodyPost_ret (results_none Tryd.results17 _ _ _) rfl ⟨rfl, rfl⟩
theorem write_nil (p : Option Addr) (len cap : Nat) (w : World) :
    Calls Tryd.prog 17 #[.pointer none, .slice p len cap] w fun e w' => e = .returned (.tuple #[]) ∧ w' = w := by
  go_enter Tryd.func17, Tryd.ntmps17
  go_wp2
  exact bodyPost_ret (results_none Tryd.results17 _ _ _) rfl ⟨rfl, rfl⟩
set_option maxHeartbeats 1000000 in
theorem write_some (hb : Nat) (L bs : List Byte) (sb so cap : Nat) (w : World) (ht : Tab w) (h0 : 0 ≠ hb) (hH : HashAt w hb L) (hbs : bs ≠ []) (hcap : bs.length ≤ cap) (hsb : sb ≠ hb)
    (hcell : ∀ i, i < bs.length → w.cell? ⟨sb, so + i, none⟩ = some (B8 (bs.getD i 0))) (hsz : L.length + bs.length < 4611686018427387904) :
    Calls Tryd.prog 17 #[.pointer (some ⟨hb, 0, none⟩), .slice (some ⟨sb, so, none⟩) bs.length cap] w fun e w' => e = .returned (.tuple #[]) ∧ HashAt w' hb (L ++ bs) ∧ Only hb w w' := by
  obtain ⟨ws, bl, hB, hF⟩ := hH
  have h64 := hF.len
  have hlen : w.cell? ⟨hb, 72, none⟩ = some (.int .u64 L.length) := by rw [hB.cell]; exact hashCells_len _ _ _ rfl h64
  have hbl : ((bs.length : Int) == 0) = false := by
    have := List.length_pos_iff.2 hbs
    simp; omega
  have HT : Hid (Tab w) := ht
  have HCE : Hid (∀ i, i < bs.length → w.cell? ⟨sb, so + i, none⟩ = some (B8 (bs.getD i 0))) := hcell
  clear ht hcell
  have hi37 : (Tryd.prog.info? 37).map (·.size) = some (H0.list.map U).length := size37
  have hone : Hid (∀ v ∈ H0.list.map U, v.oneCell' = true) := mapU_one _
  go_enter Tryd.func17, Tryd.ntmps17
  go_upto_if 17 with (fail)
  go_cut [18] (fun _ W => ∃ ws' : St, Blk W hb (hashCells ws'.list bl L.length) 41 ∧ Hid (Fits L ws' bl) ∧ Only hb w W)
  case first =>
    by_cases hz : ((L.length : Int) == 0) = true
    · have hL : L = [] := List.eq_nil_of_length_eq_zero (by simpa using hz)
      rw [if_pos hL] at hF
      clear hL
      go_wp2_with fail
      refine (first_any w).mono ?_
      rintro e w1 ⟨rfl, hb1⟩
      have hB1 := Blk.below hB hb1 hB.lt
      have hth : w1.there hb 0 (H0.list.map U).length := hB1.there 0 8 (by rw [hashCells_length _ _ _ rfl h64]; omega)
      have hB2 := Blk.setCells (H0.list.map U) 0 hB1 (by rw [hashCells_length _ _ _ rfl h64]; exact (by decide : 0 + 8 ≤ 73))
      rw [hashCells_words _ _ _ _ rfl rfl] at hB2
      have ho := (Only.of_below (hb := hb) hb1).setCells 0 (H0.list.map U)
      go_wp2_with (first
        | ((with_reducible refine wpL_store 37 hb 0 (H0.list.map U) ?_ ?_ hth hi37 hone.out ?_); (rfl); (rfl); (simp only [Act.put])))
      go_meet
      exact ⟨H0, hB2, hF, ho⟩
    · have hL : L ≠ [] := by rintro rfl; exact hz rfl
      rw [if_neg hL] at hF
      have hz' : ((L.length : Int) == 0) = false := by simpa using hz
      clear hz hL
      go_wp2
      go_meet
      exact ⟨ws, hB, hF, Only.refl _ _⟩
  case rest =>
    obtain ⟨ws', hB', HF, ho⟩ := hcut
    clear hB hlen hF hi37 hone ws
    go_wp2
    go_loopw [1] (fun v wr => ∃ (c n cp : Nat) (p : Option Addr) (ws : St) (bl : List Byte), c ≤ bs.length ∧ Hid (n = L.length + c) ∧ v = .slice p (bs.length - c) cp ∧ bs.length - c ≤ cp ∧ Hid (c < bs.length → p = some ⟨sb, so + c, none⟩) ∧ Blk wr hb (hashCells ws.list bl n) 41 ∧ Hid (Fits (L ++ bs.take c) ws bl) ∧ Only hb w wr) (fun v _ => sliceLen v)
    case atStart => exact ⟨0, L.length, cap, _, ws', bl, by omega, rfl, rfl, by omega, fun _ => rfl, hB', (by rw [List.take_zero, List.append_nil]; exact HF.out), ho⟩
    case round =>
      clear hB' HF ho h64
      obtain ⟨c, n, cp, p, ws, bl, hc, HN, rfl, hcp, HP, hB, HF, ho⟩ := hrel
      by_cases hlt : c < bs.length
      · obtain ⟨m, hm⟩ : ∃ m, m = bs.length - c := ⟨_, rfl⟩
        have hp := HP.out hlt
        subst hp
        rw [← hm]
        have h64 := HF.out.len
        have hnL : (L ++ bs.take c).length = n := by rw [List.length_append, List.length_take, Nat.min_eq_left hc, HN.out]
        have hn0 : n + m < 4611686018427387904 := by have := HN.out; omega
        have hm0 : 0 < m := by omega
        have hmc : m ≤ cp := by omega
        obtain ⟨f, hf⟩ : ∃ f, f = n % 64 := ⟨_, rfl⟩
        have hfi : (n : Int) % 64 = (f : Int) := by omega
        have hf64 : f < 64 := by omega
        have hfne : ¬ 64 = f := by omega
        have hl0 : wr.cell? ⟨hb, 72, none⟩ = some (.int .u64 n) := by rw [hB.cell]; exact hashCells_len _ _ _ rfl h64
        clear hcp
        obtain ⟨t, htd⟩ : ∃ t, t = Nat.min m (64 - f) := ⟨_, rfl⟩
        have htm : t ≤ m := by rw [htd]; exact Nat.min_le_left _ _
        have htf : f + t ≤ 64 := by have : t ≤ 64 - f := by rw [htd]; exact Nat.min_le_right _ _
                                    omega
        have ht0 : 0 < t := by rw [htd]; exact Nat.lt_min.2 ⟨hm0, by omega⟩
        obtain ⟨X, hX⟩ : ∃ X, X = (bs.drop c).take t := ⟨_, rfl⟩
        have hXl : X.length = t := by rw [hX, List.length_take, List.length_drop]; omega
        have hsrc : Hid (∀ j v, (X.map B8)[j]? = some v → wr.cell? ((⟨sb, so + c, none⟩ : Addr).add j) = some v) := by
          intro j v hv
          have hj : j < t := by have := (List.getElem?_eq_some_iff.1 hv).1; simpa [hXl] using this
          have hcell := HCE.out (c + j) (by omega)
          rw [Addr.add_mid, ho.cell (p := ⟨sb, so + c + j, none⟩) (by rw [← Nat.add_assoc] at hcell; exact lt_of_cell hcell) hsb, Nat.add_assoc, hcell, ← hv, hX]
          simp [hj, show c + j < bs.length by omega]
        have hth : wr.there hb (8 + f) (X.map B8).length := hB.there _ _ (by rw [hashCells_length _ _ _ rfl h64, List.length_map, hXl]; omega)
        have hone : Hid (∀ v ∈ X.map B8, v.oneCell' = true) := mapB_one _
        have hxm : (X.map B8).length = t := by rw [List.length_map, hXl]
        have hxn : (X.map B8).length = Nat.min m (64 - f) := by rw [hxm, htd]
        have hsz5 : (Tryd.prog.info? 5).map (·.size) = some 1 := by kernel_rfl
        have hB2 := Blk.setCells (X.map B8) (8 + f) hB (by rw [hashCells_length _ _ _ rfl h64, hxm]; omega)
        rw [hashCells_block _ _ _ _ _ rfl h64 (by omega)] at hB2
        obtain ⟨bl2, hbl2⟩ : ∃ bl2, bl2 = bl.take f ++ X ++ bl.drop (f + X.length) := ⟨_, rfl⟩
        rw [← hbl2] at hB2
        have h642 : bl2.length = 64 := by rw [hbl2]; simp [hXl]; omega
        have hl1 : (wr.setCells hb (8 + f) (X.map B8)).cell? ⟨hb, 72, none⟩ = some (.int .u64 n) := by rw [hB2.cell]; exact hashCells_len _ _ _ rfl h642
        have hf1 := hB2.frozen 72
        have ho2 := ho.setCells (8 + f) (X.map B8)
        have HL : Hid (Nat.min m (64 - f) = t ∧ X = (bs.drop c).take t ∧ bl2 = bl.take f ++ X ++ bl.drop (f + X.length) ∧ f = n % 64 ∧ m = bs.length - c) := ⟨htd.symm, hX, hbl2, hf, hm⟩
        clear htd hX hbl2 hf hm hxm
        have hsl := fun w' => slice38 hb 8 f hf64 w'
        have htm' : (t : Int) ≤ (m : Int) := by omega
        have hadd : (n : Int) + (t : Int) < 18446744073709551616 := by omega
        have hend : Hid (∀ (W' : World) (ws' : St), Blk W' hb (hashCells ws'.list bl2 (n + t)) 41 → Fits (L ++ bs.take c ++ (bs.drop c).take t) ws' bl2 → Only hb w W' →
            ∃ (c_1 n_1 cp_1 : Nat) (p : Option Addr) (ws : St) (bl : List Byte), c_1 ≤ bs.length ∧ Hid (n_1 = L.length + c_1) ∧ Value.slice (if cp = t then some ⟨sb, so + c, none⟩ else some ⟨sb, so + c + t, none⟩) (m - t) (cp - t) = .slice p (bs.length - c_1) cp_1 ∧ bs.length - c_1 ≤ cp_1 ∧ Hid (c_1 < bs.length → p = some ⟨sb, so + c_1, none⟩) ∧ Blk W' hb (hashCells ws.list bl n_1) 41 ∧ Hid (Fits (L ++ bs.take c_1) ws bl) ∧ Only hb w W') := by
          intro W' ws' h1 h2 h3
          have hmm := HL.out.2.2.2.2
          refine ⟨c + t, n + t, cp - t, if cp = t then some ⟨sb, so + c, none⟩ else some ⟨sb, so + c + t, none⟩, ws', bl2, by omega, ?_, ?_, by omega, ?_, h1, ?_, h3⟩
          · show n + t = L.length + (c + t)
            have := HN.out
            omega
          · rw [show m - t = bs.length - (c + t) by omega]
          · intro hlt2
            rw [if_neg (by omega), Nat.add_assoc]
          · show Fits (L ++ bs.take (c + t)) ws' bl2
            rw [List.take_add, ← List.append_assoc]; exact h2
        have hfin : Hid (f + t = 64 → Fits (L ++ bs.take c ++ (bs.drop c).take t) (compress KW ws bl2) bl2) := by
          intro hft
          obtain ⟨e1, e2, e3, e4, e5⟩ := HL.out
          have := fits_all (L ++ bs.take c) (bs.drop c) ws bl HF.out t (by rw [List.length_drop]; omega) (by rw [hnL, ← e4]; exact hft)
          rw [hnL, ← e4, ← e2] at this
          rw [← e2, e3, hXl]
          exact this
        have hfin2 : Hid (¬ f + t = 64 → Fits (L ++ bs.take c ++ (bs.drop c).take t) ws bl2) := by
          intro hft
          obtain ⟨e1, e2, e3, e4, e5⟩ := HL.out
          have := fits_some (L ++ bs.take c) (bs.drop c) ws bl HF.out t (by rw [List.length_drop]; omega) (by rw [hnL, ← e4]; omega)
          rw [hnL, ← e4, ← e2] at this
          rw [← e2, e3, hXl]
          exact this
        clear HF HL HCE
        by_cases hfull : f + t = 64
        · have hd : ((f : Int) + (t : Int) == 64) = true := by simp; omega
          have HF2 := hfin.out hfull
          clear hfull hfin hfin2
          have hB3 : Blk ((wr.setCells hb (8 + f) (X.map B8)).setCell ⟨hb, 72, none⟩ (.int .u64 ((n : Int) + (t : Int)))) hb (hashCells ws.list bl2 (n + t)) 41 := by
            have := hB2.set 72 (.int .u64 ((n + t : Nat) : Int))
            rw [hashCells_set _ _ _ _ rfl h642] at this
            exact this
          have ho3 := ho2.setCell 72 (.int .u64 ((n : Int) + (t : Int)))
          go_upto_region 9 with (first
            | ((with_reducible refine wpL_copy 29 29 5 hb (8 + f) (64 - f) (64 - f) ⟨sb, so + c, none⟩ m cp (X.map B8) t (by rw [List.length_map, hXl]) Tryd.underlying29 hsz5 ?_ ?_ hxn hsrc.out hth hone.out ?_); (rfl); (rfl); (simp only [Act.put, List.setIfInBounds_toArray, List.set_cons_zero, List.set_cons_succ])))
          generalize (wr.setCells hb (8 + f) (X.map B8)).setCell ⟨hb, 72, none⟩ (.int .u64 ((n : Int) + (t : Int))) = W at *
          refine wp_region_noPanic ?_
          refine wp_region_any (by kernel_rfl) ?_
          change wpAny _ _ _ _ _ _ _ (World.drew _)
          refine take_op (i := 0) (.pointer (some ⟨hb, 0, none⟩)) (by exact rfl) (by kernel_rfl) (by kernel_rfl) (by kernel_rfl) (fun _ _ _ h => h) (fun w => by go_simp) ?_
          simp only [Act.put, List.setIfInBounds_toArray, List.set_cons_zero, List.set_cons_succ]
          refine take_op (i := 1) (.pointer (some ⟨hb, 0, none⟩)) (by exact rfl) (by kernel_rfl) (by kernel_rfl) (by kernel_rfl) (fun _ _ _ h => h) (fun w => by go_simp) ?_
          simp only [Act.put, List.setIfInBounds_toArray, List.set_cons_zero, List.set_cons_succ]
          refine take_op (i := 2) (.pointer (some ⟨hb, 0, none⟩)) (by exact rfl) (by kernel_rfl) (by kernel_rfl) (by kernel_rfl) (fun _ _ _ h => h) (fun w => by go_simp) ?_
          simp only [Act.put, List.setIfInBounds_toArray, List.set_cons_zero, List.set_cons_succ]
          refine take_op (i := 3) (.pointer (some ⟨hb, 0, none⟩)) (by exact rfl) (by kernel_rfl) (by kernel_rfl) (by kernel_rfl) (fun _ _ _ h => h) (fun w => by go_simp) ?_
          simp only [Act.put, List.setIfInBounds_toArray, List.set_cons_zero, List.set_cons_succ]
          refine take_op (i := 5) (.pointer (some ⟨hb, 0, none⟩)) (by exact rfl) (by kernel_rfl) (by kernel_rfl) (by kernel_rfl) (fun _ _ _ h => h) (fun w => by go_simp) ?_
          simp only [Act.put, List.setIfInBounds_toArray, List.set_cons_zero, List.set_cons_succ]
          refine take_op (i := 6) (.pointer (some ⟨hb, 0, none⟩)) (by exact rfl) (by kernel_rfl) (by kernel_rfl) (by kernel_rfl) (fun _ _ _ h => h) (fun w => by go_simp) ?_
          simp only [Act.put, List.setIfInBounds_toArray, List.set_cons_zero, List.set_cons_succ]
          refine take_op (i := 7) (.pointer (some ⟨hb, 8, none⟩)) (by exact rfl) (by kernel_rfl) (by kernel_rfl) (by kernel_rfl) (fun _ _ _ h => h) (fun w => by go_simp) ?_
          simp only [Act.put, List.setIfInBounds_toArray, List.set_cons_zero, List.set_cons_succ]
          have hi37 : (Tryd.prog.info? 37).map (·.size) = some (ws.list.map U).length := size37
          have hi38 : (Tryd.prog.info? 38).map (·.size) = some (bl2.map B8).length := by rw [List.length_map, h642]; exact size38
          have hr37 : W.drew.rangeAt hb 0 (ws.list.map U) := hB3.drew.rangeMid 0 _ (hashCells_w _ _ _ rfl)
          have hr38 : W.drew.rangeAt hb 8 (bl2.map B8) := hB3.drew.rangeMid 8 _ (hashCells_b _ _ _ rfl)
          have hcall0 : Calls Tryd.prog 28 #[.agg (ws.list.map U).toArray, .agg (bl2.map B8).toArray] W.drew fun e w' => e = .returned (.agg ((compress KW ws bl2).list.map U).toArray) ∧ Below W.drew.heap.size W.drew w' :=
            mix_any ws bl2 h642 _ (Only.tab (ho3.drew) HT.out h0)
          generalize compress KW ws bl2 = C at HF2 hcall0
          have HF3 : Hid (Fits (L ++ bs.take c ++ (bs.drop c).take t) C bl2) := HF2
          have hcall : Hid (Calls Tryd.prog 28 #[.agg (ws.list.map U).toArray, .agg (bl2.map B8).toArray] W.drew fun e w' => e = .returned (.agg (C.list.map U).toArray) ∧ Below W.drew.heap.size W.drew w') := hcall0
          clear HF2 hcall0
          have hi37' : (Tryd.prog.info? 37).map (·.size) = some (C.list.map U).length := size37
          have hone' : Hid (∀ v ∈ C.list.map U, v.oneCell' = true) := mapU_one _
          refine wpAny_ready (rs := [4, 8]) (by kernel_rfl) (by simp) ?_
          refine ready_load 37 hb 0 (ws.list.map U) _ (by exact rfl) (by go_simp) hr37 Tryd.underlying37 rfl hi37 ?_ ?_
          · simp only [Act.put, List.setIfInBounds_toArray, List.set_cons_zero, List.set_cons_succ]
            refine wpAny_ready (rs := [8]) (by kernel_rfl) (by simp) ?_
            refine ready_load 38 hb 8 (bl2.map B8) _ (by exact rfl) (by go_simp) hr38 Tryd.underlying38 rfl hi38 ?_ ?_
            rotate_left
            · exact AllReady.nil
            simp only [Act.put, List.setIfInBounds_toArray, List.set_cons_zero, List.set_cons_succ]
            refine wpAny_ready (rs := [9]) (by kernel_rfl) (by simp) ?_
            refine ready_call 28 _ _ #[.agg (ws.list.map U).toArray, .agg (bl2.map B8).toArray] (by exact rfl) (by go_simp) (by go_simp) ?_ ?_
            rotate_left
            · exact AllReady.nil
            refine hcall.out.mono ?_
            rintro e w1 ⟨rfl, hb1⟩
            refine ⟨_, rfl, ?_⟩
            simp only [Act.put, List.setIfInBounds_toArray, List.set_cons_zero, List.set_cons_succ]
            refine take_op (i := 10) (.pointer (some ⟨hb, 0, none⟩)) (by exact rfl) (by kernel_rfl) (by kernel_rfl) (by kernel_rfl) (fun _ _ _ h => h) (fun w => by go_simp) ?_
            simp only [Act.put, List.setIfInBounds_toArray, List.set_cons_zero, List.set_cons_succ]
            refine take_op (i := 11) (.pointer (some ⟨hb, 0, none⟩)) (by exact rfl) (by kernel_rfl) (by kernel_rfl) (by kernel_rfl) (fun _ _ _ h => h) (fun w => by go_simp) ?_
            simp only [Act.put, List.setIfInBounds_toArray, List.set_cons_zero, List.set_cons_succ]
            have hB4 : Blk w1 hb (hashCells ws.list bl2 (n + t)) 41 := Blk.below hB3.drew hb1 hB3.lt
            have hth4 : w1.there hb 0 (C.list.map U).length := hB4.there 0 8 (by rw [hashCells_length _ _ _ rfl h642]; omega)
            have hB5 := Blk.setCells (C.list.map U) 0 hB4 (by rw [hashCells_length _ _ _ rfl h642]; exact (by decide : 0 + 8 ≤ 73))
            rw [hashCells_words _ _ _ _ rfl rfl] at hB5
            have ho5 := (ho3.drew.trans (Only.of_below hb1)).setCells 0 (C.list.map U)
            refine wpAny_ready (rs := [12]) (by kernel_rfl) (by simp) ?_
            refine ready_store 37 hb 0 (C.list.map U) (by exact rfl) (by go_simp) (by go_simp) hth4 hi37' hone'.out ?_ ?_
            rotate_left
            · exact AllReady.nil
            simp only [Act.put]
            refine wpAny_done (by kernel_rfl) (NoPanic.normal ?_) _
            go_wp2
            go_roundw
            case rel => exact hend.out _ C hB5 HF3.out ho5
            case measure => show m - t < m; omega
          · refine ready_load 38 hb 8 (bl2.map B8) _ (by exact rfl) (by go_simp) hr38 Tryd.underlying38 rfl hi38 ?_ ?_
            rotate_left
            · exact AllReady.nil
            simp only [Act.put, List.setIfInBounds_toArray, List.set_cons_zero, List.set_cons_succ]
            refine wpAny_ready (rs := [4]) (by kernel_rfl) (by simp) ?_
            refine ready_load 37 hb 0 (ws.list.map U) _ (by exact rfl) (by go_simp) hr37 Tryd.underlying37 rfl hi37 ?_ ?_
            rotate_left
            · exact AllReady.nil
            simp only [Act.put, List.setIfInBounds_toArray, List.set_cons_zero, List.set_cons_succ]
            refine wpAny_ready (rs := [9]) (by kernel_rfl) (by simp) ?_
            refine ready_call 28 _ _ #[.agg (ws.list.map U).toArray, .agg (bl2.map B8).toArray] (by exact rfl) (by go_simp) (by go_simp) ?_ ?_
            rotate_left
            · exact AllReady.nil
            refine hcall.out.mono ?_
            rintro e w1 ⟨rfl, hb1⟩
            refine ⟨_, rfl, ?_⟩
            simp only [Act.put, List.setIfInBounds_toArray, List.set_cons_zero, List.set_cons_succ]
            refine take_op (i := 10) (.pointer (some ⟨hb, 0, none⟩)) (by exact rfl) (by kernel_rfl) (by kernel_rfl) (by kernel_rfl) (fun _ _ _ h => h) (fun w => by go_simp) ?_
            simp only [Act.put, List.setIfInBounds_toArray, List.set_cons_zero, List.set_cons_succ]
            refine take_op (i := 11) (.pointer (some ⟨hb, 0, none⟩)) (by exact rfl) (by kernel_rfl) (by kernel_rfl) (by kernel_rfl) (fun _ _ _ h => h) (fun w => by go_simp) ?_
            simp only [Act.put, List.setIfInBounds_toArray, List.set_cons_zero, List.set_cons_succ]
            have hB4 : Blk w1 hb (hashCells ws.list bl2 (n + t)) 41 := Blk.below hB3.drew hb1 hB3.lt
            have hth4 : w1.there hb 0 (C.list.map U).length := hB4.there 0 8 (by rw [hashCells_length _ _ _ rfl h642]; omega)
            have hB5 := Blk.setCells (C.list.map U) 0 hB4 (by rw [hashCells_length _ _ _ rfl h642]; exact (by decide : 0 + 8 ≤ 73))
            rw [hashCells_words _ _ _ _ rfl rfl] at hB5
            have ho5 := (ho3.drew.trans (Only.of_below hb1)).setCells 0 (C.list.map U)
            refine wpAny_ready (rs := [12]) (by kernel_rfl) (by simp) ?_
            refine ready_store 37 hb 0 (C.list.map U) (by exact rfl) (by go_simp) (by go_simp) hth4 hi37' hone'.out ?_ ?_
            rotate_left
            · exact AllReady.nil
            simp only [Act.put]
            refine wpAny_done (by kernel_rfl) (NoPanic.normal ?_) _
            go_wp2
            go_roundw
            case rel => exact hend.out _ C hB5 HF3.out ho5
            case measure => show m - t < m; omega
        · have hd : ((f : Int) + (t : Int) == 64) = false := by simp; omega
          go_wp2_with (first
            | ((with_reducible refine wpL_copy 29 29 5 hb (8 + f) (64 - f) (64 - f) ⟨sb, so + c, none⟩ m cp (X.map B8) t (by rw [List.length_map, hXl]) Tryd.underlying29 hsz5 ?_ ?_ hxn hsrc.out hth hone.out ?_); (rfl); (rfl); (simp only [Act.put, List.setIfInBounds_toArray, List.set_cons_zero, List.set_cons_succ])))
          go_roundw
          case rel =>
            refine hend.out _ ws ?_ (hfin2.out hfull) (ho2.setCell 72 _)
            have := hB2.set 72 (.int .u64 ((n + t : Nat) : Int))
            rw [hashCells_set _ _ _ _ rfl h642] at this
            exact this
          case measure => show m - t < m; omega
      · have hcl : c = bs.length := by omega
        have hm0 : bs.length - c = 0 := by omega
        rw [hm0]
        have HE : Hid (HashAt wr hb (L ++ bs)) := by
          have hF := HF.out
          rw [hcl, List.take_of_length_le (Nat.le_refl _)] at hF
          refine ⟨ws, bl, ?_, ?_⟩
          · rw [List.length_append, ← hcl, ← HN.out]; exact hB
          · rw [if_neg (by intro h; exact hbs (List.append_eq_nil_iff.1 h).2)]; exact hF
        clear hcl hm0 HF HN HP hlt
        go_wp2
        go_end0
        exact ⟨rfl, HE.out, ho⟩
end Go.Proofs.YtpgckbjcacagdaaDoor
