/- The machine's operations on this program's own types: stores, conversions and new variables of words, bytes and arrays of them. -/
import Derived.Test.YtpgckbjcacagdaaDoorChecked
import Derived.Test.YtpgckbjcacagdaaDoorMem
import Derived.Test.YtpgckbjcacagdaaDoorPure
import Derived.KernelRfl
namespace Go.Proofs.YtpgckbjcacagdaaDoor
open Go.RowKit
section
attribute [local go_sem] oneCell_U oneCell_B run_store_U run_store_B
attribute [local go_sem ↓] run_cells_U run_cells_B cells_U cells_B
theorem storeAt_U (w : World) (a : Addr) (x : Word) : (Instr.storeAt 36 (.pointer (some a)) (U x)).run Tryd.prog w = stored Tryd.prog w a (U x) .plain := by
  go_simp
theorem storeAt_B (w : World) (a : Addr) (x : Byte) : (Instr.storeAt 5 (.pointer (some a)) (B8 x)).run Tryd.prog w = stored Tryd.prog w a (B8 x) .plain := by
  go_simp
end
theorem convBU (w : World) (p : Byte) : (convert 5 36 (B8 p)).run Tryd.prog w = .ok (U (p.setWidth 32)) w := conv_BU w p 5 36 Tryd.underlying5 Tryd.underlying36
theorem convUB (w : World) (p : Word) : (convert 36 5 (U p)).run Tryd.prog w = .ok (B8 (p.setWidth 8)) w := conv_UB w p 36 5 Tryd.underlying36 Tryd.underlying5

/-- Noughts: words, bytes. -/
def zU (n : Nat) : List Value := (List.replicate n (0 : Word)).map U
def zB (n : Nat) : List Value := (List.replicate n (0 : Byte)).map B8
theorem zU_eq (n : Nat) : zU n = List.replicate n (Value.int .u32 0) := by simp only [zU, List.map_replicate]; rfl
theorem zB_eq (n : Nat) : zB n = List.replicate n (Value.int .u8 0) := by simp only [zB, List.map_replicate]; rfl
theorem zU_length (n : Nat) : (zU n).length = n := by simp [zU]
theorem zB_length (n : Nat) : (zB n).length = n := by simp [zB]
theorem alloc_of {P : Program} {t : TypeId} {l : List Value} (h : ∀ w, (zeroValue t).run P w = .ok (.agg l.toArray) w) (w : World) :
    (Instr.alloc t true (.tuple #[])).run P w = .ok (.pointer (some ⟨w.heap.size, 0, none⟩)) (w.alloc (.cells l.toArray t)) := by
  simp [Instr.alloc, h, go_sem]
theorem alloc44 (w : World) : (Instr.alloc 44 true (.tuple #[])).run Tryd.prog w = .ok (.pointer (some ⟨w.heap.size, 0, none⟩)) (w.alloc (.cells (zU 64).toArray 44)) :=
  alloc_of (fun w => by rw [zU_eq]; exact Tryd.zeroValue44 w) w
theorem alloc37 (w : World) : (Instr.alloc 37 true (.tuple #[])).run Tryd.prog w = .ok (.pointer (some ⟨w.heap.size, 0, none⟩)) (w.alloc (.cells (zU 8).toArray 37)) :=
  alloc_of (fun w => by rw [zU_eq]; exact Tryd.zeroValue37 w) w
theorem alloc38 (w : World) : (Instr.alloc 38 true (.tuple #[])).run Tryd.prog w = .ok (.pointer (some ⟨w.heap.size, 0, none⟩)) (w.alloc (.cells (zB 64).toArray 38)) :=
  alloc_of (fun w => by rw [zB_eq]; exact Tryd.zeroValue38 w) w
theorem alloc26 (w : World) : (Instr.alloc 26 true (.tuple #[])).run Tryd.prog w = .ok (.pointer (some ⟨w.heap.size, 0, none⟩)) (w.alloc (.cells (zB 32).toArray 26)) :=
  alloc_of (fun w => by rw [zB_eq]; exact Tryd.zeroValue26 w) w
theorem zero66 : (Tryd.prog.info? 66).map (fun i => (i.zero, i.size)) = some (some (.agg (List.replicate 72 (Value.int .u8 0)).toArray), 72) := by kernel_rfl
theorem zero41 : (Tryd.prog.info? 41).map (fun i => (i.zero, i.size)) = some (some (.agg (List.replicate 8 (Value.int .u32 0) ++ (List.replicate 64 (Value.int .u8 0) ++ [Value.int .u64 0])).toArray), 73) := by kernel_rfl
theorem zeroOf {P : Program} {t : TypeId} {v : Value} {n : Nat} (h : (P.info? t).map (fun i => (i.zero, i.size)) = some (some v, n)) : ∀ w, (zeroValue t).run P w = .ok v w := by
  cases hq : P.info? t with
  | none => simp [hq] at h
  | some i =>
    simp [hq] at h
    exact fun w => by simp [zeroValue, typeInfo, hq, h.1]
theorem alloc66 (w : World) : (Instr.alloc 66 true (.tuple #[])).run Tryd.prog w = .ok (.pointer (some ⟨w.heap.size, 0, none⟩)) (w.alloc (.cells (zB 72).toArray 66)) :=
  alloc_of (fun w => by rw [zB_eq]; exact zeroOf zero66 w) w
/-- A Hash in memory: its words, its block, its length. -/
def hashCells (ws : List Word) (bl : List Byte) (n : Nat) : List Value := ws.map U ++ (bl.map B8 ++ [.int .u64 n])
theorem alloc41 (w : World) : (Instr.alloc 41 true (.tuple #[])).run Tryd.prog w = .ok (.pointer (some ⟨w.heap.size, 0, none⟩)) (w.alloc (.cells (hashCells (List.replicate 8 0) (List.replicate 64 0) 0).toArray 41)) :=
  alloc_of (fun w => by
    have : hashCells (List.replicate 8 0) (List.replicate 64 0) 0 = List.replicate 8 (Value.int .u32 0) ++ (List.replicate 64 (Value.int .u8 0) ++ [Value.int .u64 0]) := by
      simp only [hashCells, List.map_replicate]; rfl
    rw [this]; exact zeroOf zero41 w) w
theorem zv44 (w : World) : (zeroValue 44).run Tryd.prog w = .ok (.agg (zU 64).toArray) w := by rw [zU_eq]; exact Tryd.zeroValue44 w
theorem zv37 (w : World) : (zeroValue 37).run Tryd.prog w = .ok (.agg (zU 8).toArray) w := by rw [zU_eq]; exact Tryd.zeroValue37 w
theorem zv38 (w : World) : (zeroValue 38).run Tryd.prog w = .ok (.agg (zB 64).toArray) w := by rw [zB_eq]; exact Tryd.zeroValue38 w
theorem zv26 (w : World) : (zeroValue 26).run Tryd.prog w = .ok (.agg (zB 32).toArray) w := by rw [zB_eq]; exact Tryd.zeroValue26 w
theorem size44 : (Tryd.prog.info? 44).map (·.size) = some 64 := by kernel_rfl
theorem size37 : (Tryd.prog.info? 37).map (·.size) = some 8 := by kernel_rfl
theorem size38 : (Tryd.prog.info? 38).map (·.size) = some 64 := by kernel_rfl
theorem size26 : (Tryd.prog.info? 26).map (·.size) = some 32 := by kernel_rfl
theorem size41 : (Tryd.prog.info? 41).map (·.size) = some 73 := by kernel_rfl
theorem mapU_one (l : List Word) : ∀ v ∈ l.map U, v.oneCell' = true := by
  intro v hv; obtain ⟨x, _, rfl⟩ := List.mem_map.1 hv; rfl
theorem mapB_one (l : List Byte) : ∀ v ∈ l.map B8, v.oneCell' = true := by
  intro v hv; obtain ⟨x, _, rfl⟩ := List.mem_map.1 hv; rfl
theorem Blk.cellB {w : World} {b : Nat} {l : List Byte} {t : TypeId} (h : Blk w b (l.map B8) t) {j : Nat} (hj : j < l.length) : w.cell? ⟨b, j, none⟩ = some (B8 (l.getD j 0)) := by
  rw [h.cell]; simp [hj]
theorem Blk.cellU {w : World} {b : Nat} {l : List Word} {t : TypeId} (h : Blk w b (l.map U) t) {j : Nat} (hj : j < l.length) : w.cell? ⟨b, j, none⟩ = some (U (l.getD j 0)) := by
  rw [h.cell]; simp [hj]
theorem set_mapU (l : List Word) (j : Nat) (x : Word) : (l.map U).set j (U x) = (l.set j x).map U := by rw [List.map_set]
theorem set_mapB (l : List Byte) (j : Nat) (x : Byte) : (l.map B8).set j (B8 x) = (l.set j x).map B8 := by rw [List.map_set]
end Go.Proofs.YtpgckbjcacagdaaDoor
