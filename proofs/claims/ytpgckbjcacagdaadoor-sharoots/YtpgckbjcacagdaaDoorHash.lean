/- A Hash in memory, and what stays as it was while one block of memory is written. -/
import Derived.Test.YtpgckbjcacagdaaDoorMix
import Derived.Test.YtpgckbjcacagdaaDoorWords
import Derived.Test.YtpgckbjcacagdaaDoorPureb
namespace Go.Proofs.YtpgckbjcacagdaaDoor
open Go.RowKit

/-- Of what was there nothing has turned but block hb. -/
structure Only (hb : Nat) (w w' : World) : Prop where
  os : w'.os = w.os
  tape : w'.tape = w.tape
  output : w'.output = w.output
  size : w.heap.size ≤ w'.heap.size
  block : ∀ k, k < w.heap.size → k ≠ hb → w'.heap[k]? = w.heap[k]?
theorem Only.refl (hb : Nat) (w : World) : Only hb w w := ⟨rfl, rfl, rfl, Nat.le_refl _, fun _ _ _ => rfl⟩
theorem Only.trans {hb : Nat} {a b c : World} (h : Only hb a b) (k : Only hb b c) : Only hb a c :=
  ⟨k.os.trans h.os, k.tape.trans h.tape, k.output.trans h.output, Nat.le_trans h.size k.size, fun i hi hn => (k.block i (Nat.lt_of_lt_of_le hi h.size) hn).trans (h.block i hi hn)⟩
theorem Only.of_below {hb : Nat} {a b : World} (h : Below a.heap.size a b) : Only hb a b := ⟨h.os, h.tape, h.output, h.size, fun k hk _ => h.block k hk⟩
theorem Only.setCells {hb : Nat} {a b : World} (h : Only hb a b) (o : Nat) (vs : List Value) : Only hb a (b.setCells hb o vs) :=
  h.trans ⟨(misc_setCells hb vs o b).1, (misc_setCells hb vs o b).2.1, (misc_setCells hb vs o b).2.2, by rw [size_setCells]; exact Nat.le_refl _, fun k _ hn => heap_setCells hb vs o b k hn⟩
theorem Only.setCell {hb : Nat} {a b : World} (h : Only hb a b) (o : Nat) (v : Value) : Only hb a (b.setCell ⟨hb, o, none⟩ v) :=
  h.trans ⟨rfl, rfl, rfl, by simp [World.setCell], fun k _ hn => Below.heap_setCell _ _ _ _ hn⟩
theorem Only.drew {hb : Nat} {a b : World} (h : Only hb a b) : Only hb a b.drew := ⟨h.os, h.tape, h.output, h.size, h.block⟩
theorem Only.drewN {hb : Nat} {a b : World} (h : Only hb a b) (n : Nat) : Only hb a (b.drewN n) := ⟨h.os, h.tape, h.output, h.size, h.block⟩
theorem Only.alloc {hb : Nat} {a b : World} (h : Only hb a b) (o : Obj) : Only hb a (b.alloc o) :=
  h.trans (Only.of_below ((Below.refl _ _).alloc (Nat.le_refl _) o))
theorem Only.below {hb B : Nat} {a b : World} (h : Only hb a b) (hB : B ≤ hb) (hs : B ≤ a.heap.size) : Below B a b :=
  ⟨h.os, h.tape, h.output, h.size, fun k hk => h.block k (by omega) (by omega)⟩
theorem Only.cell {hb : Nat} {a b : World} (h : Only hb a b) {p : Addr} (hp : p.block < a.heap.size) (hn : p.block ≠ hb) : b.cell? p = a.cell? p := World.cell?_of_block (w := a) (h.block p.block hp hn)
theorem Only.blk {hb : Nat} {a b : World} (h : Only hb a b) {g : Nat} {l : List Value} {t : TypeId} (hl : Blk a g l t) (hn : g ≠ hb) : Blk b g l t := by
  have := hl.lt
  unfold Blk at *; rw [h.block g this hn]; exact hl
theorem Only.tab {hb : Nat} {a b : World} (h : Only hb a b) (ht : Tab a) (hn : 0 ≠ hb) : Tab b := fun i hi => by
  rw [h.cell (p := ⟨0, i, none⟩) ht.pos hn]; exact ht i hi
theorem lt_of_cell {w : World} {p : Addr} {v : Value} (h : w.cell? p = some v) : p.block < w.heap.size := by
  rcases Nat.lt_or_ge p.block w.heap.size with h1 | h1
  · exact h1
  · simp [World.cell?, h1] at h

theorem hashCells_length (ws : List Word) (bl : List Byte) (n : Nat) (h8 : ws.length = 8) (h64 : bl.length = 64) : (hashCells ws bl n).length = 73 := by simp [hashCells, h8, h64]
theorem hashCells_len (ws : List Word) (bl : List Byte) (n : Nat) (h8 : ws.length = 8) (h64 : bl.length = 64) : (hashCells ws bl n)[72]? = some (.int .u64 n) := by
  simp [hashCells, h8, h64]
theorem hashCells_set (ws : List Word) (bl : List Byte) (n m : Nat) (h8 : ws.length = 8) (h64 : bl.length = 64) : (hashCells ws bl n).set 72 (.int .u64 m) = hashCells ws bl m := by
  unfold hashCells
  rw [List.set_append_right _ _ (by simp [h8]), List.set_append_right _ _ (by simp [h8, h64])]
  simp [h8, h64]
theorem hashCells_words (ws ws' : List Word) (bl : List Byte) (n : Nat) (h8 : ws.length = 8) (h8' : ws'.length = 8) : over (hashCells ws bl n) 0 (ws'.map U) = hashCells ws' bl n := by
  unfold over hashCells
  simp [h8', h8]
theorem hashCells_block (ws : List Word) (bl cs : List Byte) (n f : Nat) (h8 : ws.length = 8) (h64 : bl.length = 64) (hf : f + cs.length ≤ 64) :
    over (hashCells ws bl n) (8 + f) (cs.map B8) = hashCells ws (bl.take f ++ cs ++ bl.drop (f + cs.length)) n := by
  unfold over hashCells
  have e1 : (ws.map U ++ (bl.map B8 ++ [Value.int .u64 n])).take (8 + f) = ws.map U ++ (bl.map B8).take f := by
    rw [List.take_append, List.take_append]
    simp [h8, h64, show f - 64 = 0 by omega]
    rw [List.take_of_length_le (by simp [h8])]
  have e2 : (ws.map U ++ (bl.map B8 ++ [Value.int .u64 n])).drop (8 + f + (cs.map B8).length) = (bl.map B8).drop (f + cs.length) ++ [Value.int .u64 n] := by
    rw [List.drop_append, List.drop_append]
    simp [h8, h64, show 8 + f + cs.length - 8 = f + cs.length by omega, show f + cs.length - 64 = 0 by omega]
    omega
  rw [e1, e2]
  simp
theorem hashCells_w (ws : List Word) (bl : List Byte) (n : Nat) (h8 : ws.length = 8) : ((hashCells ws bl n).drop 0).take (ws.map U).length = ws.map U := by
  simp [hashCells, h8]
theorem hashCells_b (ws : List Word) (bl : List Byte) (n : Nat) (h8 : ws.length = 8) : ((hashCells ws bl n).drop 8).take (bl.map B8).length = bl.map B8 := by
  simp [hashCells, h8]
theorem Blk.rangeMid {w : World} {b : Nat} {l : List Value} {t : TypeId} (h : Blk w b l t) (o : Nat) (cs : List Value) (hc : (l.drop o).take cs.length = cs) : w.rangeAt b o cs := fun j v hv => by
  have hj : j < cs.length := (List.getElem?_eq_some_iff.1 hv).1
  rw [h.cell, ← hv]
  have e : ((l.drop o).take cs.length)[j]? = cs[j]? := by rw [hc]
  rw [← e, List.getElem?_take, if_pos hj, List.getElem?_drop]
theorem slice38 (b o f : Nat) (hf : f < 64) (w : World) : (Instr.sliceAt 38 (.pointer (some ⟨b, o, none⟩)) (some (.int .i64 f)) none none).run Tryd.prog w = .ok (.slice (some ⟨b, o + f, none⟩) (64 - f) (64 - f)) w := by
  have h2 : ¬ 64 = f := by omega
  simp [Instr.sliceAt, Instr.sliceBounds, Instr.sliceBound, go_sem, h2]
  intro h; omega
/-- How long a slice is. -/
def sliceLen : Value → Nat
  | .slice _ n _ => n
  | _ => 0
/-- The Hash of the bytes L lies in block hb. -/
def HashAt (w : World) (hb : Nat) (L : List Byte) : Prop := ∃ (ws : St) (bl : List Byte), Blk w hb (hashCells ws.list bl L.length) 41 ∧ Fits L (if L = [] then H0 else ws) bl
/-- v is a slice of the bytes bs, in another block than hb. -/
def SliceB (w : World) (hb : Nat) (v : Value) (bs : List Byte) : Prop :=
  ∃ p cap, v = .slice p bs.length cap ∧ bs.length ≤ cap ∧ (bs ≠ [] → ∃ sb so, p = some ⟨sb, so, none⟩ ∧ sb ≠ hb ∧ ∀ i, i < bs.length → w.cell? ⟨sb, so + i, none⟩ = some (B8 (bs.getD i 0)))
theorem SliceB.only {w w' : World} {hb : Nat} {v : Value} {bs : List Byte} (h : SliceB w hb v bs) (ho : Only hb w w') : SliceB w' hb v bs := by
  obtain ⟨p, cap, rfl, hc, h⟩ := h
  refine ⟨p, cap, rfl, hc, fun hn => ?_⟩
  obtain ⟨sb, so, hp, hs, hcell⟩ := h hn
  refine ⟨sb, so, hp, hs, fun i hi => ?_⟩
  rw [ho.cell (p := ⟨sb, so + i, none⟩) (lt_of_cell (hcell i hi)) hs]; exact hcell i hi
section
variable {P : Program}
/-- The builtin copy, as the walk meets it. -/
theorem wpL_copy {ops : Array Oper} {rest : List Oper} {Q : Exit → Act → World → Prop} {a : Act} {w : World} {dd : Option Tmp} {d s : Operand} {tt : TypeId} {pos : String} {af : Array Edge} (dT sT elem : TypeId)
    (b o dLen dCap : Nat) (ad : Addr) (sLen sCap : Nat) (cs : List Value) (n : Nat) (hcn : cs.length = n)
    (hu : P.underlying dT = some (.slice elem)) (hsz : (P.info? elem).map (·.size) = some 1)
    (hd : a.eval d = .slice (some ⟨b, o, none⟩) dLen dCap) (hs : a.eval s = .slice (some ad) sLen sCap) (hn : cs.length = Nat.min sLen dLen)
    (hsrc : ∀ j v, cs[j]? = some v → w.cell? (ad.add j) = some v) (ht : w.there b o cs.length) (h1 : ∀ v ∈ cs, v.oneCell' = true)
    (h : wpList P ops Q rest (a.put dd (.int .i64 n)) (w.setCells b o cs)) :
    wpList P ops Q ({ dst := dd, op := .call { callee := .builtin .copy, args := #[d, s], argTypes := #[dT, sT] }, type := tt, pos := pos, after := af, guard := none } :: rest) a w := by
  subst hcn
  refine wpList_plain rfl fun K hK => ?_
  have hrun := run_copy_cells (P := P) w dT sT tt elem b o dLen dCap ad sLen sCap cs hu hsz hn hsrc (fun j hj => (ht j hj).1) (fun j hj => (ht j hj).2) h1
  unfold Oper.wp
  simp [execOp, resolve, invoke, builtin, hd, hs, hrun, Result.andThen]
  exact hK _ _ h
end
end Go.Proofs.YtpgckbjcacagdaaDoor
