/- What writeAll does, and what the package's Sum answers. -/
import Derived.Test.YtpgckbjcacagdaaDoorSum
namespace Go.Proofs.YtpgckbjcacagdaaDoor
open Go.RowKit
attribute [local go_sem] zv41
attribute [local go_sem ↓] zv26

/-- v is a slice of slices of bytes: the parts. -/
def PartsAt (w : World) (hb : Nat) (v : Value) (parts : List (List Byte)) : Prop :=
  ∃ p cap, ∃ vs : List Value, v = .slice p parts.length cap ∧ (∀ i, i < parts.length → SliceB w hb (vs.getD i undef) (parts.getD i [])) ∧
    (parts ≠ [] → ∃ pb po, p = some ⟨pb, po, none⟩ ∧ pb ≠ hb ∧ ∀ i, i < parts.length → w.cell? ⟨pb, po + i, none⟩ = some (vs.getD i undef))
theorem PartsAt.only {w w' : World} {hb : Nat} {v : Value} {parts : List (List Byte)} (h : PartsAt w hb v parts) (ho : Only hb w w') : PartsAt w' hb v parts := by
  obtain ⟨p, cap, vs, rfl, h1, h2⟩ := h
  refine ⟨p, cap, vs, rfl, fun i hi => (h1 i hi).only ho, fun hn => ?_⟩
  obtain ⟨pb, po, hp, hn, hc⟩ := h2 hn
  exact ⟨pb, po, hp, hn, fun i hi => by rw [ho.cell (p := ⟨pb, po + i, none⟩) (lt_of_cell (hc i hi)) hn]; exact hc i hi⟩
theorem flat_take (parts : List (List Byte)) (k : Nat) (hk : k < parts.length) : (parts.take (k + 1)).flatten = (parts.take k).flatten ++ parts.getD k [] := by
  rw [List.take_succ_eq_append_getElem hk, List.flatten_append, List.flatten_singleton]
  congr 1
  simp [hk]
theorem flat_le (parts : List (List Byte)) (k : Nat) : (parts.take k).flatten.length ≤ parts.flatten.length := by
  conv => rhs; rw [← List.take_append_drop k parts]
  rw [List.flatten_append, List.length_append]; omega

set_option maxHeartbeats 1000000 in
theorem writeAll_any (hb : Nat) (L : List Byte) (parts : List (List Byte)) (v : Value) (w : World) (ht : Tab w) (h0 : 0 ≠ hb) (hH : HashAt w hb L) (hP : PartsAt w hb v parts)
    (hn : parts.length < 4611686018427387904) (hsz : L.length + parts.flatten.length < 4611686018427387904) :
    Calls Tryd.prog 23 #[.pointer (some ⟨hb, 0, none⟩), v] w fun e w' => e = .returned (.tuple #[]) ∧ HashAt w' hb (L ++ parts.flatten) ∧ Only hb w w' := by
  have HT : Hid (Tab w) := ht
  have HH : Hid (HashAt w hb L) := hH
  obtain ⟨p, cap, vs, rfl, h1, h2⟩ := hP
  have H1 : Hid (∀ i, i < parts.length → SliceB w hb (vs.getD i undef) (parts.getD i [])) := h1
  have H2 : Hid (parts ≠ [] → ∃ pb po, p = some ⟨pb, po, none⟩ ∧ pb ≠ hb ∧ ∀ i, i < parts.length → w.cell? ⟨pb, po + i, none⟩ = some (vs.getD i undef)) := h2
  clear ht hH h1 h2
  go_enter Tryd.func23, Tryd.ntmps23
  go_wp2
  go_loopw [8] (fun i wr => ∃ k : Nat, k ≤ parts.length ∧ i = .int .i64 k ∧ Hid (HashAt wr hb (L ++ (parts.take k).flatten)) ∧ Only hb w wr) (fun i _ => parts.length - (intOf i).toNat)
  case atStart => exact ⟨0, by omega, rfl, by rw [List.take_zero, List.flatten_nil, List.append_nil]; exact HH, Only.refl _ _⟩
  case round =>
    obtain ⟨k, hk, rfl, HK, ho⟩ := hrel
    by_cases hlt : k < parts.length
    · obtain ⟨pb, po, hp, hne, hc⟩ := H2.out (by intro h; rw [h] at hlt; simp at hlt)
      subst hp
      have e0 : (0 : Int) ≤ (k : Int) := by omega
      have e1 : (k : Int) < (parts.length : Int) := by omega
      have hck : wr.cell? ⟨pb, po + k, none⟩ = some (vs.getD k undef) := by
        rw [ho.cell (p := ⟨pb, po + k, none⟩) (lt_of_cell (hc k hlt)) hne]; exact hc k hlt
      have hcall : Hid (Calls Tryd.prog 17 #[.pointer (some ⟨hb, 0, none⟩), vs.getD k undef] wr fun e w' => e = .returned (.tuple #[]) ∧ HashAt w' hb (L ++ (parts.take (k + 1)).flatten) ∧ Only hb wr w') := by
        have := write_any hb (L ++ (parts.take k).flatten) (parts.getD k []) (vs.getD k undef) wr (Only.tab ho HT.out h0) h0 HK.out ((H1.out k hlt).only ho) (by
          have := flat_le parts (k + 1)
          rw [flat_take parts k hlt] at this
          simp only [List.length_append] at this ⊢
          omega)
        rw [flat_take parts k hlt, ← List.append_assoc]; exact this
      clear hc HK
      generalize vs.getD k undef = vk at *
      go_wp2_with fail
      refine hcall.out.mono ?_
      rintro e w1 ⟨rfl, hH1, hO1⟩
      go_wp2
      go_roundw
      case rel => exact ⟨k + 1, by omega, by go_num, hH1, ho.trans hO1⟩
      case measure => simp [intOf]; omega
    · have hkk : k = parts.length := by omega
      have HE : Hid (HashAt wr hb (L ++ parts.flatten)) := by
        have := HK.out
        rw [hkk, List.take_of_length_le (Nat.le_refl _)] at this
        exact this
      clear hkk HK
      go_wp2
      go_end0
      exact ⟨rfl, HE.out, ho⟩

set_option maxHeartbeats 1000000 in
theorem shaSum_any (parts : List (List Byte)) (v : Value) (w : World) (ht : Tab w) (hP : PartsAt w (w.heap.size + 1) v parts)
    (hn : parts.length < 4611686018427387904) (hsz : parts.flatten.length < 1152921504606846976) :
    Calls Tryd.prog 11 #[v] w fun e w' => e = .returned (.agg ((digest parts.flatten).map B8).toArray) ∧ Below w.heap.size w w' := by
  have hpos := ht.pos
  have hbe : Below w.heap.size w ((w.alloc (.cells (zB 32).toArray 26)).alloc (.cells zH.toArray 41)) := ((Below.refl _ _).alloc (Nat.le_refl _) _).alloc (by simp) _
  have hR : Blk ((w.alloc (.cells (zB 32).toArray 26)).alloc (.cells zH.toArray 41)) w.heap.size (zB 32) 26 := (Blk.new _ _ _).alloc _
  have hT2 : Tab ((w.alloc (.cells (zB 32).toArray 26)).alloc (.cells zH.toArray 41)) := ht.below hbe hpos
  have hcall : Hid (Calls Tryd.prog 23 #[.pointer (some ⟨w.heap.size + 1, 0, none⟩), v] ((w.alloc (.cells (zB 32).toArray 26)).alloc (.cells zH.toArray 41)) fun e w' => e = .returned (.tuple #[]) ∧ HashAt w' (w.heap.size + 1) ([] ++ parts.flatten) ∧ Only (w.heap.size + 1) ((w.alloc (.cells (zB 32).toArray 26)).alloc (.cells zH.toArray 41)) w') :=
    writeAll_any (w.heap.size + 1) [] parts v _ hT2 (by omega) (hashAt_zero (Blk.new' _ _ _ _ (by simp))) (hP.only (Only.of_below hbe)) hn (by rw [List.length_nil]; omega)
  have HT2 : Hid (Tab ((w.alloc (.cells (zB 32).toArray 26)).alloc (.cells zH.toArray 41))) := hT2
  clear hP ht hT2
  go_enter Tryd.func11, Tryd.ntmps11
  go_wp2_with fail
  refine hcall.out.mono ?_
  rintro e w1 ⟨rfl, hH1, hO1⟩
  rw [List.nil_append] at hH1
  have hT1 : Tab w1 := Only.tab hO1 HT2.out (by omega)
  have hR1 : Blk w1 w.heap.size (zB 32) 26 := hO1.blk hR (by omega)
  have hbe1 : Below w.heap.size w w1 := hbe.trans (hO1.below (by omega) (by simp; omega))
  have hsum : Hid (Calls Tryd.prog 18 #[.pointer (some ⟨w.heap.size + 1, 0, none⟩)] w1 fun e w' => e = .returned (.agg ((digest parts.flatten).map B8).toArray) ∧ Below w1.heap.size w1 w') :=
    sum_some (w.heap.size + 1) parts.flatten w1 hT1 hH1 hsz
  have hbl : (digest parts.flatten).length = 32 := digest_length _
  have HD : Hid (∀ X, X = parts.flatten → digest X = digest parts.flatten) := by rintro X rfl; rfl
  have hex : ∃ D, Hid (∀ X, X = parts.flatten → digest X = D) ∧ D.length = 32 ∧ Hid (Calls Tryd.prog 18 #[.pointer (some ⟨w.heap.size + 1, 0, none⟩)] w1 fun e w' => e = .returned (.agg (D.map B8).toArray) ∧ Below w1.heap.size w1 w') := ⟨_, HD, hbl, hsum⟩
  clear hsum hbl HD hcall hT1 HT2 hH1
  obtain ⟨D, HD, hbl, hsum⟩ := hex
  have hi26 : (Tryd.prog.info? 26).map (·.size) = some (D.map B8).length := by rw [List.length_map, hbl]; exact size26
  have hone : Hid (∀ v ∈ D.map B8, v.oneCell' = true) := mapB_one _
  go_wp2_with fail
  refine hsum.out.mono ?_
  rintro e w2 ⟨rfl, hb2⟩
  have hR2 : Blk w2 w.heap.size (zB 32) 26 := hR1.below hb2 hR1.lt
  have hth : w2.there w.heap.size 0 (D.map B8).length := hR2.there 0 _ (by rw [zB_length, List.length_map, hbl]; omega)
  have hR3 := Blk.setCells (D.map B8) 0 hR2 (by rw [zB_length, List.length_map, hbl]; omega)
  rw [show over (zB 32) 0 (D.map B8) = D.map B8 by simp [over, zB, hbl]] at hR3
  have hbe3 := Below.setCells (hbe1.trans (hb2.mono (Nat.le_of_lt hR1.lt))) (b := w.heap.size) (Nat.le_refl _) 0 (D.map B8)
  go_wp2_with (first
    | ((with_reducible refine wpL_store 26 w.heap.size 0 (D.map B8) ?_ ?_ hth hi26 hone.out ?_); (rfl); (rfl); (simp only [Act.put])))
  exact bodyPost_ret (results_array Tryd.results11 rfl hR3 Tryd.underlying26 rfl hi26) rfl ⟨by rw [HD.out _ rfl], hbe3⟩
end Go.Proofs.YtpgckbjcacagdaaDoor
