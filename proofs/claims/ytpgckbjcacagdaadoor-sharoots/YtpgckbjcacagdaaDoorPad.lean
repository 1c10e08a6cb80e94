/- What pad does to a Hash. -/
import Derived.Test.YtpgckbjcacagdaaDoorWrite
import Derived.Test.YtpgckbjcacagdaaDoorPurec
namespace Go.Proofs.YtpgckbjcacagdaaDoor
open Go.RowKit
attribute [local go_sem] match_U match_B run_cells_U run_cells_B run_store_U run_store_B
attribute [local go_sem ↓] storeAt_U storeAt_B

theorem write_any (hb : Nat) (L bs : List Byte) (v : Value) (w : World) (ht : Tab w) (h0 : 0 ≠ hb) (hH : HashAt w hb L) (hS : SliceB w hb v bs) (hsz : L.length + bs.length < 4611686018427387904) :
    Calls Tryd.prog 17 #[.pointer (some ⟨hb, 0, none⟩), v] w fun e w' => e = .returned (.tuple #[]) ∧ HashAt w' hb (L ++ bs) ∧ Only hb w w' := by
  obtain ⟨p, cap, rfl, hc, h⟩ := hS
  by_cases hbs : bs = []
  · subst hbs
    refine (write_none hb p cap w).mono ?_
    rintro e w' ⟨rfl, rfl⟩
    exact ⟨rfl, by rw [List.append_nil]; exact hH, Only.refl _ _⟩
  · obtain ⟨sb, so, rfl, hs, hcell⟩ := h hbs
    exact write_some hb L bs sb so cap w ht h0 hH hbs hc hs hcell hsz

theorem B8_of (x : Nat) : B8 (BitVec.ofNat 8 x) = .int .u8 ((x : Int) % 256) := by
  unfold B8; simp

theorem zv66 (w : World) : (zeroValue 66).run Tryd.prog w = .ok (.agg (zB 72).toArray) w := by rw [zB_eq]; exact zeroOf zero66 w
attribute [local go_sem] zv66
set_option maxHeartbeats 1000000 in
theorem pad_any (hb : Nat) (L : List Byte) (w : World) (ht : Tab w) (h0 : 0 ≠ hb) (hH : HashAt w hb L) (hsz : L.length < 1152921504606846976) :
    Calls Tryd.prog 29 #[.pointer (some ⟨hb, 0, none⟩)] w fun e w' => e = .returned (.tuple #[]) ∧ HashAt w' hb (L ++ padOf L.length) ∧ Only hb w w' := by
  have HH : Hid (HashAt w hb L) := hH
  have HT : Hid (Tab w) := ht
  obtain ⟨ws, bl, hB, hF⟩ := hH
  have h64 := hF.len
  have hlt := hB.lt
  have hlen : w.cell? ⟨hb, 72, none⟩ = some (.int .u64 L.length) := by rw [hB.cell]; exact hashCells_len _ _ _ rfl h64
  clear ht hF
  obtain ⟨n, hn⟩ : ∃ n, n = L.length := ⟨_, rfl⟩
  have HN : Hid (n = L.length) := hn
  rw [← hn] at hlen hsz hB
  clear hn
  obtain ⟨f, hf⟩ : ∃ f, f = n % 64 := ⟨_, rfl⟩
  have hfi : (n : Int) % 64 = (f : Int) := by omega
  have hf64 : f < 64 := by omega
  obtain ⟨fr, hfr⟩ : ∃ fr, fr = freeOf n := ⟨_, rfl⟩
  have hfree : fr = if 64 - f < 9 then 64 - f + 64 else 64 - f := by rw [hfr]; unfold freeOf; rw [hf]
  have hbd := freeOf_bd n
  rw [← hfr] at hbd
  obtain ⟨hbd1, hbd2, hbd3⟩ := hbd
  have HFR : Hid (fr = freeOf n) := hfr
  have HF : Hid (f = n % 64) := hf
  clear hfr hf hbd3
  have hB1 : Blk (w.alloc (.cells ((zB 72).set 0 (.int .u8 128)).toArray 66)) w.heap.size ((tailTo fr (8 * n) 0).map B8) 66 := by
    rw [tailTo_zero fr _ hbd1 hbd2, List.map_set]
    exact Blk.new _ _ _
  have ho1 : Only hb w (w.alloc (.cells ((zB 72).set 0 (.int .u8 128)).toArray 66)) := Only.of_below ((Below.refl _ _).alloc (Nat.le_refl _) _)
  have hne : w.heap.size ≠ hb := by omega
  have hB2 : Blk (w.alloc (.cells ((zB 72).set 0 (.int .u8 128)).toArray 66)) hb (hashCells ws.list bl n) 41 := hB.alloc _
  have HH2 : Hid (HashAt (w.alloc (.cells ((zB 72).set 0 (.int .u8 128)).toArray 66)) hb L) := by
    obtain ⟨ws0, bl0, hb0, hf0⟩ := HH.out
    exact ⟨ws0, bl0, hb0.alloc _, hf0⟩
  have c1 : ∀ o, (w.alloc o).cell? ⟨hb, 72, none⟩ = some (.int .u64 n) := fun o => by
    rw [World.cell?_alloc_lt _ _ ⟨hb, 72, none⟩ hlt]; exact hlen
  go_enter Tryd.func29, Tryd.ntmps29
  go_upto_if 20 with (fail)
  go_cut [4] (fun s W' => s = .int .i64 fr ∧ W' = w.alloc (.cells ((zB 72).set 0 (.int .u8 128)).toArray 66))
  case first =>
    by_cases hc : 64 - f < 9
    · rw [if_pos hc] at hfree
      have hc' : 64 - (f : Int) < 9 := by omega
      have hfr' : 64 - (f : Int) + 64 = (fr : Int) := by omega
      clear hfree hc
      go_wp2
      go_meet
      exact ⟨rfl, rfl⟩
    · rw [if_neg hc] at hfree
      have hc' : ¬ 64 - (f : Int) < 9 := by omega
      have hfr' : 64 - (f : Int) = (fr : Int) := by omega
      clear hfree hc
      go_wp2
      go_meet
      exact ⟨rfl, rfl⟩
  case rest =>
    obtain ⟨rfl, rfl⟩ := hcut
    clear hlen c1 hB hfree hfi HF
    generalize w.alloc (.cells ((zB 72).set 0 (.int .u8 128)).toArray 66) = W at *
    go_wp2
    go_loopw [23] (fun i wr => ∃ k : Nat, k ≤ 8 ∧ i = .int .i64 k ∧ Blk wr w.heap.size ((tailTo fr (8 * n) k).map B8) 66 ∧ Only w.heap.size W wr) (fun i _ => 8 - (intOf i).toNat)
    case atStart => exact ⟨0, by omega, rfl, hB1, Only.refl _ _⟩
    case round =>
      obtain ⟨k, hk, rfl, hT, hO⟩ := hrel
      by_cases hlt8 : k < 8
      · have e0 : (0 : Int) ≤ (k : Int) := by omega
        have e1 : (k : Int) < 8 := by omega
        have e2 : (0 : Int) ≤ (fr : Int) - 1 - (k : Int) := by omega
        have e3 : (fr : Int) - 1 - (k : Int) < 72 := by omega
        have e4 : ((fr : Int) - 1 - (k : Int)).toNat = fr - 1 - k := by omega
        have f1 := hT.frozen (fr - 1 - k)
        have c1 := hT.cellB (j := fr - 1 - k) (by rw [tailTo_length _ _ _ hbd1 hbd2 hk]; omega)
        generalize (tailTo fr (8 * n) k).getD (fr - 1 - k) 0 = y0 at c1
        go_wp2
        have hv : Value.int .u8 ((n : Int) * 8 / 2 ^ (8 * k) % 256) = B8 (BitVec.ofNat 8 (8 * n / 2 ^ (8 * k))) := by
          rw [B8_of]; congr 2; simp [Int.mul_comm]
        go_roundw
        case rel =>
          refine ⟨k + 1, by omega, by go_num, ?_, hO.setCell _ _⟩
          have h3 := hT.set (fr - 1 - k) (B8 (BitVec.ofNat 8 (8 * n / 2 ^ (8 * k))))
          rw [set_mapB, tailTo_set fr (8 * n) k hbd1 hlt8] at h3
          rw [hv]; exact h3
        case measure => simp [intOf]; omega
      · have hk8 : k = 8 := by omega
        rw [hk8] at hT
        have e1 : ¬ (k : Int) < 8 := by omega
        clear hk8 hk hlt8
        have q0 : (0 : Int) ≤ (fr : Int) := by omega
        have q1 : (fr : Int) ≤ 72 := by omega
        have hHr : HashAt wr hb L := by
          obtain ⟨ws0, bl0, hb0, hf0⟩ := HH2.out
          exact ⟨ws0, bl0, hO.blk hb0 (Ne.symm hne), hf0⟩
        have hTr : Tab wr := Only.tab hO (Only.tab ho1 HT.out h0) (by have := HT.out.pos; omega)
        have hcall : Hid (Calls Tryd.prog 17 #[.pointer (some ⟨hb, 0, none⟩), .slice (some ⟨w.heap.size, 0, none⟩) fr 72] wr fun e w' => e = .returned (.tuple #[]) ∧ HashAt w' hb (L ++ padOf L.length) ∧ Only hb wr w') := by
          have hpl : (padOf L.length).length = fr := by rw [padOf_length, HFR.out, HN.out]
          have hS : SliceB wr hb (.slice (some ⟨w.heap.size, 0, none⟩) fr 72) (padOf L.length) := by
            refine ⟨_, 72, by rw [hpl], by omega, fun _ => ⟨w.heap.size, 0, rfl, hne, fun i hi => ?_⟩⟩
            rw [Nat.zero_add, hT.cellB (by rw [tailTo_length _ _ _ hbd1 hbd2 (by omega)]; omega)]
            have e : padOf L.length = (tailTo fr (8 * n) 8).take fr := by rw [HFR.out, tailTo_take, HN.out]
            rw [e]
            have hi' : i < fr := by omega
            simp [hi']
          exact write_any hb L _ _ wr hTr h0 hHr hS (by have := HN.out; omega)
        have hO2 : Only hb w wr := ⟨hO.os.trans ho1.os, hO.tape.trans ho1.tape, hO.output.trans ho1.output, Nat.le_trans ho1.size hO.size, fun i hi hn => (hO.block i (Nat.lt_of_lt_of_le hi ho1.size) (by omega)).trans (ho1.block i hi hn)⟩
        clear hHr hTr hT
        go_wp2_with (go_at_call 17; refine hcall.out.mono ?_; rintro e w' ⟨rfl, hH', hO'⟩)
        go_end0
        exact ⟨rfl, hH', hO2.trans hO'⟩
end Go.Proofs.YtpgckbjcacagdaaDoor
