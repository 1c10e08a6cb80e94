/- The walk of the law ShaNil: it answers true. -/
import Derived.Test.YtpgckbjcacagdaaDoorAwake
import Derived.Test.YtpgckbjcacagdaaDoorApp
import Derived.Test.YtpgckbjcacagdaaDoorEqlD
import Derived.Deep.RegionHeld3
import Derived.Deep.DeepCutAuto
namespace Go.Proofs.YtpgckbjcacagdaaDoor
open Go.RowKit
attribute [local go_sem] eqGuard_D neqGuard_D

theorem wpL_append0 {ops : Array Oper} {rest : List Oper} {Q : Exit → Act → World → Prop} {a : Act} {w : World} {dd : Option Tmp} {s x : Operand} {tt : TypeId} {pos : String} {af : Array Edge} (base : Nat) (sv : Value) (bs : List Byte)
    (hs : a.eval s = .slice none 0 0) (hx : a.eval x = sv) (hb : BytesAt w sv bs) (hsz : bs.length ≤ 1099511627776) (hbase : base ≤ w.heap.size)
    (h : ∀ p cap w', OwnB w' base (.slice p bs.length cap) bs → Below base w w' → wpList Tryd.prog ops Q rest (a.put dd (.slice p bs.length cap)) w') :
    wpList Tryd.prog ops Q ({ dst := dd, op := .call { callee := .builtin .append, args := #[s, x], argTypes := #[29, 29] }, type := tt, pos := pos, after := af, guard := none } :: rest) a w := by
  refine wpL_append base _ sv [] bs hs hx (OwnB.nil _ _) hb (by simpa using hsz) hbase ?_
  intro p cap w' ho _ hbe
  have e : ([] : List Byte).length + bs.length = bs.length := by simp
  rw [e] at ho ⊢
  exact h p cap w' ho hbe

/-- One part alone, in a new row. -/
theorem parts_one' {w : World} {v : Value} {bs : List Byte} (h : BytesAt (w.alloc (.cells #[v] 29)) v bs) : PartsAt (w.alloc (.cells #[v] 29)) ((w.alloc (.cells #[v] 29)).heap.size + 1) (.slice (some ⟨w.heap.size, 0, none⟩) 1 1) [bs] := by
  refine ⟨_, 1, [v], rfl, fun i hi => ?_, fun _ => ⟨w.heap.size, 0, rfl, by simp; omega, fun i hi => ?_⟩⟩
  · obtain rfl : i = 0 := by simpa using hi
    exact h.sliceB (by omega)
  · obtain rfl : i = 0 := by simpa using hi
    rw [cell_of_row _ _ _ _ _ _ (heap_alloc_last w _)]
    rfl
theorem parts_one {w : World} {v : Value} {bs : List Byte} (h : BytesAt w v bs) : PartsAt (w.alloc (.cells #[v] 29)) ((w.alloc (.cells #[v] 29)).heap.size + 1) (.slice (some ⟨w.heap.size, 0, none⟩) 1 1) [bs] :=
  parts_one' (h.below ((Below.refl _ _).alloc (Nat.le_refl _) _))
theorem parts_none (w : World) (hb : Nat) : PartsAt w hb (.slice none 0 0) [] := ⟨none, 0, [], rfl, fun i hi => by simp at hi, fun h => absurd rfl h⟩

theorem shaNil_big (p : Option Addr) (m cap : Nat) (w : World) (ht : Tab w) (hm : 5000 < m) :
    Calls Tryd.prog 8 #[.slice p m cap] w fun e w' => e = .returned (.bool true) ∧ Below w.heap.size w w' := by
  have haw : Hid (∀ W, Below w.heap.size w W → Calls Tryd.prog 9 #[] W fun e w' => e = .returned (.bool true) ∧ Below W.heap.size W w') := fun W hW => awake_any W (ht.below hW ht.pos)
  have hm' : (5000 : Int) < (m : Int) := by omega
  clear ht hm
  go_enter Tryd.func8, Tryd.ntmps8
  go_wp2_with fail
  refine (haw.out w (Below.refl _ _)).mono ?_
  rintro e w1 ⟨rfl, hb1⟩
  go_wp2_with fail
  refine (haw.out w1 hb1).mono ?_
  rintro e w2 ⟨rfl, hb2⟩
  go_wp2
  go_ret
  exact ⟨rfl, hb1.trans (hb2.mono hb1.size)⟩
set_option maxHeartbeats 1000000 in
theorem shaNil_walk (bs : List Byte) (p : Option Addr) (cap : Nat) (w : World) (ht : Tab w) (hB : BytesAt w (.slice p bs.length cap) bs) (hm : bs.length ≤ 5000) :
    Calls Tryd.prog 8 #[.slice p bs.length cap] w fun e w' => e = .returned (.bool true) ∧ Below w.heap.size w w' := by
  have hpos := ht.pos
  have haw : Hid (Calls Tryd.prog 9 #[] w fun e w' => e = .returned (.bool true) ∧ Below w.heap.size w w') := awake_any w ht
  have hm' : ¬ (5000 : Int) < (bs.length : Int) := by omega
  have HT : Hid (Tab w) := ht
  have HB : Hid (BytesAt w (.slice p bs.length cap) bs) := hB
  clear ht hB
  go_enter Tryd.func8, Tryd.ntmps8
  go_wp2_with fail
  refine haw.out.mono ?_
  rintro e w1 ⟨rfl, hb1⟩
  have hB1 := HB.out.below hb1
  have hs40 : bs.length ≤ 1099511627776 := by omega
  go_wp2_with (first
    | (go_at_call 17; refine (write_nil _ _ _ _).mono ?_; rintro e w' ⟨rfl, hw⟩; obtain rfl := hw.symm)
    | ((with_reducible refine wpL_append0 w1.heap.size (.slice p bs.length cap) bs ?_ ?_ hB1 hs40 (Nat.le_refl _) ?_); (rfl); (rfl); (intro pi ci w2 hO2 hb2); (simp only [Act.put, List.setIfInBounds_toArray, List.set_cons_zero, List.set_cons_succ])))
  have hbe2 : Below w.heap.size w w2 := hb1.trans (hb2.mono hb1.size)
  have hBin2 : BytesAt w2 (.slice pi bs.length ci) bs := hO2.bytes
  have hBv2 : BytesAt w2 (.slice p bs.length cap) bs := hB1.below hb2
  have hsz3 : (w2.alloc (.cells #[Value.slice pi bs.length ci] 29)).heap.size = w2.heap.size + 1 := by simp
  have hbe3 : Below w.heap.size w (w2.alloc (.cells #[Value.slice pi bs.length ci] 29)) := hbe2.alloc hbe2.size _
  have hsum1 : Hid (∀ W v bb, bb.length ≤ 5000 → Tab W → BytesAt W v bb → Calls Tryd.prog 11 #[.slice (some ⟨W.heap.size, 0, none⟩) 1 1] (W.alloc (.cells #[v] 29)) fun e w' => e = .returned (.agg ((digest bb).map B8).toArray) ∧ Below (W.alloc (.cells #[v] 29)).heap.size (W.alloc (.cells #[v] 29)) w') := by
    intro W v bb hbb hT hbv
    have := shaSum_any [bb] _ _ (hT.below ((Below.refl _ _).alloc (Nat.le_refl _) _) hT.pos) (parts_one hbv) (by simp) (by simp; omega)
    simpa using this
  have hex : ∃ D : List Byte, D.length = 32 ∧ Hid (∀ X, X = bs → digest X = D) := ⟨digest bs, digest_length _, by rintro X rfl; rfl⟩
  obtain ⟨D, hDl, HD⟩ := hex
  have hcall := hsum1.out w2 _ bs hm (HT.out.below hbe2 hpos) hBin2
  rw [HD.out bs rfl] at hcall
  refine hcall.mono ?_
  rintro e w4 ⟨rfl, hb4⟩
  have hi26 : (Tryd.prog.info? 26).map (·.size) = some (D.map B8).length := by rw [List.length_map, hDl]; exact size26
  have hone : Hid (∀ v ∈ D.map B8, v.oneCell' = true) := mapB_one _
  have hzl : (zB 32).length = (D.map B8).length := by rw [List.length_map, hDl, zB_length]
  clear hcall
  go_upto_region 8 with (first
    | ((with_reducible refine wpL_new 26 (zB 32) (D.map B8) zv26 hzl ?_ ?_ hi26 hone.out ?_); (rfl); (rfl); (simp only [Act.put, List.setIfInBounds_toArray, List.set_cons_zero, List.set_cons_succ])))
  have hbe4 : Below w2.heap.size w2 w4 := ((Below.refl _ _).alloc (Nat.le_refl _) _).trans (hb4.mono (by simp))
  have hbeW : Below w.heap.size w (w4.alloc (.cells (D.map B8).toArray 26)) := (hbe2.trans (hbe4.mono hbe2.size)).alloc (by have := hbe2.size; have := hbe4.size; omega) _
  have hbe5 : Below w2.heap.size w2 (w4.alloc (.cells (D.map B8).toArray 26)) := hbe4.alloc hbe4.size _
  have hBW : Blk (w4.alloc (.cells (D.map B8).toArray 26)) w4.heap.size (D.map B8) 26 := Blk.new _ _ _
  have hBinW := hBin2.below hbe5
  have hBvW := hBv2.below hbe5
  have hTW := HT.out.below hbeW hpos
  clear hb4 hbe4 hbe5 hBin2 hBv2 hb2 hO2 hB1 hbe3 hsz3 hzl hone haw HT HB hb1 hbe2
  generalize w4.alloc (.cells (D.map B8).toArray 26) = W at *
  generalize w4.heap.size = M at *
  have hex : ∃ E : List Byte, E.length = 32 ∧ Hid (∀ X, X = ([] : List Byte) → digest X = E) := ⟨digest [], digest_length _, by rintro X rfl; rfl⟩
  obtain ⟨E, hEl, HE⟩ := hex
  have c18 : Hid (∀ w', Below W.heap.size W w' → Calls Tryd.prog 18 #[.pointer none] w' fun e w'' => e = .returned (.agg (E.map B8).toArray) ∧ Below w'.heap.size w' w'') := fun w' h => by
    have := sum_nil w' (hTW.below h hTW.pos)
    rw [HE.out _ rfl] at this; exact this
  have c11n : Hid (∀ w', Below W.heap.size W w' → Calls Tryd.prog 11 #[.slice none 0 0] w' fun e w'' => e = .returned (.agg (E.map B8).toArray) ∧ Below w'.heap.size w' w'') := fun w' h => by
    have := shaSum_any [] _ w' (hTW.below h hTW.pos) (parts_none _ _) (by simp) (by simp)
    rw [List.flatten_nil, HE.out _ rfl] at this; exact this
  have c22 : Hid (∀ w', Below W.heap.size W w' → Calls Tryd.prog 22 #[.slice pi bs.length ci, .slice p bs.length cap] w' fun e w'' => e = .returned (.bool true) ∧ Below w'.heap.size w' w'') := fun w' h =>
    (same_any bs _ _ w' (hBinW.below h) (hBvW.below h) (by omega)).mono fun e w'' ⟨he, n, hw⟩ => ⟨he, by rw [hw]; exact Below.drewN (Below.refl _ _) n⟩
  have c11b : Hid (∀ w' : World, Below W.heap.size W (w'.alloc (.cells #[Value.slice p bs.length cap] 29)) → Calls Tryd.prog 11 #[.slice (some ⟨w'.heap.size, 0, none⟩) 1 1] (w'.alloc (.cells #[Value.slice p bs.length cap] 29)) fun e w'' => e = .returned (.agg (D.map B8).toArray) ∧ Below (w'.alloc (.cells #[Value.slice p bs.length cap] 29)).heap.size (w'.alloc (.cells #[Value.slice p bs.length cap] 29)) w'') := fun w' h => by
    have := shaSum_any [bs] _ _ (hTW.below h hTW.pos) (parts_one' (hBvW.below h)) (by simp) (by simp; omega)
    rw [show [bs].flatten = bs by simp, HD.out bs rfl] at this; exact this
  have keepS : Hid (∀ w' w'' : World, Below w'.heap.size w' w'' → Below W.heap.size W w' → w''.rangeAt M 0 (D.map B8) ∧ Below W.heap.size W w'') := fun w' w'' h2 h1 =>
    ⟨(hBW.below (h1.trans (h2.mono h1.size)) hBW.lt).range, h1.trans (h2.mono h1.size)⟩
  have keepA : Hid (∀ (w' : World) (o : Obj), Below W.heap.size W w' → (w'.alloc o).rangeAt M 0 (D.map B8) ∧ Below W.heap.size W (w'.alloc o)) := fun w' o h1 =>
    keepS.out w' _ ((Below.refl _ _).alloc (Nat.le_refl _) _) h1
  have keep0 : W.drew.rangeAt M 0 (D.map B8) ∧ Below W.heap.size W W.drew := ⟨hBW.range, (Below.refl _ _).drew⟩
  have hDD : ∀ w', (binOp .eql 26 (.agg (D.map B8).toArray) (.agg (D.map B8).toArray)).run Tryd.prog w' = .ok (.bool true) w' := fun w' => by rw [run_eql_D w' D D hDl hDl]; simp
  have hEE : ∀ w', (binOp .eql 26 (.agg (E.map B8).toArray) (.agg (E.map B8).toArray)).run Tryd.prog w' = .ok (.bool true) w' := fun w' => by rw [run_eql_D w' E E hEl hEl]; simp
  have hu26 := Tryd.underlying26
  clear hsum1 hBinW hBvW hTW
  go_region_held3 (fun w' => w'.rangeAt M 0 (D.map B8) ∧ Below W.heap.size W w')
    (first | exact keep0 | (go_split_ands; exact keepS.out _ _ (by assumption) (by assumption)) | (go_split_ands; exact keepA.out _ _ (by assumption)))
    (first
      | (go_at_call 18; refine (c18.out _ ?_).mono ?_; (go_split_ands; assumption); rintro e w' ⟨rfl, hbx⟩)
      | (go_at_call_of 11 (Value.slice none 0 0); refine (c11n.out _ ?_).mono ?_; (go_split_ands; assumption); rintro e w' ⟨rfl, hbx⟩)
      | (go_at_call 22; refine (c22.out _ ?_).mono ?_; (go_split_ands; assumption); rintro e w' ⟨rfl, hbx⟩)
      | (go_at_call 11; refine (c11b.out _ ?_).mono ?_; (go_split_ands; assumption); rintro e w' ⟨rfl, hbx⟩))
  go_wp2
  go_ret
  go_split_ands
  refine ⟨rfl, hbeW.trans (Below.mono (B := W.heap.size) ?_ hbeW.size)⟩
  assumption
end Go.Proofs.YtpgckbjcacagdaaDoor
