/- What awake answers: true. -/
import Derived.Test.YtpgckbjcacagdaaDoorAll
import Derived.Test.YtpgckbjcacagdaaDoorEqual
import Derived.Lib.SlBytesConst
namespace Go.Proofs.YtpgckbjcacagdaaDoor
open Go.RowKit

/-- A whole array is read behind a guard that says yes. -/
theorem wpL_loadG {P : Program} {ops : Array Oper} {rest : List Oper} {Q : Exit → Act → World → Prop} {a : Act} {w : World} {dd : Option Tmp} {x : Operand} {tt : TypeId} {pos : String} {af : Array Edge} {gd : Nat × Bool} (ty : TypeId) (b o : Nat) (cs : List Value) (d : TypeDesc)
    (hw : Region.wanted { dst := dd, op := .load ty x, type := tt, pos := pos, after := af, guard := some gd } (yielded ops a.tmps) = true)
    (hx : a.eval x = .pointer (some ⟨b, o, none⟩)) (hc : w.rangeAt b o cs) (hu : P.underlying ty = some d) (hd : d.isRow = true) (hi : (P.info? ty).map (·.size) = some cs.length)
    (h : wpList P ops Q rest (a.put dd (.agg cs.toArray)) w) : wpList P ops Q ({ dst := dd, op := .load ty x, type := tt, pos := pos, after := af, guard := some gd } :: rest) a w := by
  simp only [wpList, hw, if_true]
  exact Or.inl (wp_load_mid ty x rfl b o hx cs d hc hu hd hi h)

theorem run_eql_B186 {P : Program} (w : World) (t : TypeId) (p : Byte) : (binOp .eql t (B8 p) (.int .u8 186)).run P w = .ok (.bool (p == 186#8)) w := run_eql_B w t p 186 (by omega)
theorem run_eql_B173 {P : Program} (w : World) (t : TypeId) (p : Byte) : (binOp .eql t (B8 p) (.int .u8 173)).run P w = .ok (.bool (p == 173#8)) w := run_eql_B w t p 173 (by omega)
theorem abc0 : (digest [97, 98, 99]).getD 0 0 = 186 := by decide +kernel
theorem abc31 : (digest [97, 98, 99]).getD 31 0 = 173 := by decide +kernel
attribute [local go_sem] eqGuard_B run_eql_B186 run_eql_B173

theorem parts_abc (w : World) : PartsAt ((w.alloc (.cells #[Value.int .u8 97, Value.int .u8 98, Value.int .u8 99] 5 (3, 4))).alloc (.cells #[Value.slice (some ⟨w.heap.size, 0, none⟩) 3 3] 29)) (w.heap.size + 3)
    (.slice (some ⟨w.heap.size + 1, 0, none⟩) 1 1) [[97, 98, 99]] := by
  refine ⟨_, 1, [.slice (some ⟨w.heap.size, 0, none⟩) 3 3], rfl, fun i hi => ?_, fun _ => ⟨w.heap.size + 1, 0, rfl, by omega, fun i hi => ?_⟩⟩
  · obtain rfl : i = 0 := by simpa using hi
    refine ⟨_, 3, rfl, by simp, fun _ => ⟨w.heap.size, 0, rfl, by omega, fun j hj => ?_⟩⟩
    have hj3 : j < 3 := by simpa using hj
    rw [World.cell?_alloc_lt _ _ ⟨w.heap.size, 0 + j, none⟩ (by simp), cell_of_row _ _ _ _ _ _ (heap_alloc_last w _)]
    rcases j with _ | _ | _ | j
    · rfl
    · rfl
    · rfl
    · omega
  · obtain rfl : i = 0 := by simpa using hi
    have h := heap_alloc_last (w.alloc (.cells #[Value.int .u8 97, Value.int .u8 98, Value.int .u8 99] 5 (3, 4))) (.cells #[Value.slice (some ⟨w.heap.size, 0, none⟩) 3 3] 29)
    rw [World.size_alloc] at h
    rw [cell_of_row _ _ _ _ _ _ h]
    rfl

set_option maxHeartbeats 1000000 in
theorem awake_any (w : World) (ht : Tab w) : Calls Tryd.prog 9 #[] w fun e w' => e = .returned (.bool true) ∧ Below w.heap.size w w' := by
  have kc := fun (w : World) (C : Array Value) (n c : Nat) => Lib.run_convert_bytes_const (P := Tryd.prog) w 29 5 C n c Tryd.underlying29 Tryd.underlying5
  have hpos := ht.pos
  have hbe : Below w.heap.size w ((w.alloc (.cells #[Value.int .u8 97, Value.int .u8 98, Value.int .u8 99] 5 (3, 4))).alloc (.cells #[Value.slice (some ⟨w.heap.size, 0, none⟩) 3 3] 29)) :=
    ((Below.refl _ _).alloc (Nat.le_refl _) _).alloc (by simp) _
  have hcall0 := shaSum_any [[97, 98, 99]] (.slice (some ⟨w.heap.size + 1, 0, none⟩) 1 1) _ (ht.below hbe hpos) (by simpa using parts_abc w) (by decide) (by decide)
  have hfl : ([[97, 98, 99]] : List (List Byte)).flatten = [97, 98, 99] := rfl
  rw [hfl] at hcall0
  have hex : ∃ D : List Byte, D.length = 32 ∧ D.getD 0 0 = 186 ∧ D.getD 31 0 = 173 ∧ Hid (Calls Tryd.prog 11 #[.slice (some ⟨w.heap.size + 1, 0, none⟩) 1 1] ((w.alloc (.cells #[Value.int .u8 97, Value.int .u8 98, Value.int .u8 99] 5 (3, 4))).alloc (.cells #[Value.slice (some ⟨w.heap.size, 0, none⟩) 3 3] 29)) fun e w' => e = .returned (.agg (D.map B8).toArray) ∧ Below ((w.alloc (.cells #[Value.int .u8 97, Value.int .u8 98, Value.int .u8 99] 5 (3, 4))).alloc (.cells #[Value.slice (some ⟨w.heap.size, 0, none⟩) 3 3] 29)).heap.size ((w.alloc (.cells #[Value.int .u8 97, Value.int .u8 98, Value.int .u8 99] 5 (3, 4))).alloc (.cells #[Value.slice (some ⟨w.heap.size, 0, none⟩) 3 3] 29)) w') :=
    ⟨_, digest_length _, abc0, abc31, hcall0⟩
  clear hcall0 ht
  obtain ⟨D, hbl, hd0, hd31, hcall⟩ := hex
  have hi26 : (Tryd.prog.info? 26).map (·.size) = some (D.map B8).length := by rw [List.length_map, hbl]; exact size26
  have hone : Hid (∀ v ∈ D.map B8, v.oneCell' = true) := mapB_one _
  have hzl : (zB 32).length = (D.map B8).length := by rw [List.length_map, hbl, zB_length]
  go_enter Tryd.func9, Tryd.ntmps9
  go_wp2_with fail
  refine hcall.out.mono ?_
  rintro e w1 ⟨rfl, hb1⟩
  have hbe1 : Below w.heap.size w (w1.alloc (.cells (D.map B8).toArray 26)) :=
    (hbe.trans (hb1.mono (by simp; omega))).alloc (by have := hb1.size; simp at this; omega) _
  have hB : Blk (w1.alloc (.cells (D.map B8).toArray 26)) w1.heap.size (D.map B8) 26 := Blk.new _ _ _
  have c0 : (w1.alloc (.cells (D.map B8).toArray 26)).cell? ⟨w1.heap.size, 0, none⟩ = some (B8 186) := by rw [← hd0]; exact hB.cellB (by omega)
  have c31 : (w1.alloc (.cells (D.map B8).toArray 26)).cell? ⟨w1.heap.size, 31, none⟩ = some (B8 173) := by rw [← hd31]; exact hB.cellB (by omega)
  have hr := hB.range
  have heq : Hid (∀ W, Calls Tryd.prog 21 #[.agg (D.map B8).toArray, .agg (D.map B8).toArray] W fun e w' => e = .returned (.bool true) ∧ Below W.heap.size W w') := fun W => by
    have := equal_any D D hbl hbl W
    simpa using this
  clear hd0 hd31 hcall kc hB
  go_wp2_with (first
    | ((with_reducible refine wpL_new 26 (zB 32) (D.map B8) zv26 hzl ?_ ?_ hi26 hone.out ?_); (rfl); (rfl); (simp only [Act.put, List.setIfInBounds_toArray, List.set_cons_zero, List.set_cons_succ]))
    | ((with_reducible refine wpL_loadG 26 w1.heap.size 0 (D.map B8) _ ?_ ?_ hr Tryd.underlying26 ?_ hi26 ?_); (rfl); (rfl); (rfl); (simp only [Act.put, List.setIfInBounds_toArray, List.set_cons_zero, List.set_cons_succ]))
    | (go_at_call 21; refine (heq.out _).mono ?_; rintro e w' ⟨rfl, hb2⟩))
  go_ret
  exact ⟨rfl, hbe1.trans (hb2.mono (by have := hbe1.size; omega))⟩
end Go.Proofs.YtpgckbjcacagdaaDoor
