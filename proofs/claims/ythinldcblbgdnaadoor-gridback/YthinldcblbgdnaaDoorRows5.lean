/- The rows of a text: what is read of them, and the memory in which a map grows. -/
import Derived.Test.YthinldcblbgdnaaDoorOwn
import Derived.Test.YthinldcblbgdnaaDoorShelf
namespace Go.Proofs.YthinldcblbgdnaaDoor
open Go.RowKit
def byt (r : ByteArray) : List Nat := r.data.toList.map UInt8.toNat
def bodyOf (s : ByteArray) : ByteArray := ⟨(Lib.trimSuffix s.data.toList [10]).toArray⟩
def ended (s : ByteArray) : Bool := Lib.hasSuffix s.data.toList [10]
def rowsOf (s : ByteArray) : List ByteArray := Lib.splitB ⟨#[10]⟩ 0 (Lib.countB (bodyOf s) ⟨#[10]⟩) (bodyOf s)
def rowOk (n : Nat) (r : ByteArray) : Bool := r.size == n && (byt r).all sgnK
def widthOf (s : ByteArray) : Nat := ((rowsOf s).getD 0 ByteArray.empty).size
def okRows (s : ByteArray) : Bool := ended s && (rowsOf s).all (rowOk (widthOf s))
def tilesOf (l : List ByteArray) : List Int := l.flatMap fun r => (byt r).map sgnT
def oresOf (l : List ByteArray) : List Int := l.flatMap fun r => (byt r).map sgnO
/-- The map that readRows answers. -/
def mapOf (s : ByteArray) : Mp := if okRows s then ⟨(widthOf s : Int), ((rowsOf s).length : Int), tilesOf (rowsOf s), oresOf (rowsOf s)⟩ else ⟨0, 0, [], []⟩
theorem byt_length (r : ByteArray) : (byt r).length = r.size := by rw [byt, List.length_map, Lib.size_eq]
theorem split_size (sep : ByteArray) : ∀ (k : Nat) (s : ByteArray), ∀ r ∈ Lib.splitB sep 0 k s, r.size ≤ s.size
  | 0, s, r, h => by
    rw [Lib.splitB_zero] at h
    simp at h
    rw [h]; exact Nat.le_refl _
  | k + 1, s, r, h => by
    unfold Lib.splitB at h
    split at h
    · simp at h
      rw [h]; exact Nat.le_refl _
    · rcases List.mem_cons.1 h with rfl | h
      · rw [ByteArray.size_extract]; omega
      · have := split_size sep k _ r h
        rw [ByteArray.size_extract] at this; omega
theorem body_size (s : ByteArray) : (bodyOf s).size ≤ s.size := by
  have : (bodyOf s).size = (Lib.trimSuffix s.data.toList [10]).length := by rw [Lib.size_eq]; simp [bodyOf]
  rw [this, Lib.size_eq, Lib.trimSuffix]
  split
  · rw [List.length_take]; omega
  · exact Nat.le_refl _
theorem rows_size {s : ByteArray} {r : ByteArray} (h : r ∈ rowsOf s) : r.size ≤ s.size := Nat.le_trans (split_size _ _ _ r h) (body_size s)
theorem rows_length (s : ByteArray) : (rowsOf s).length = Lib.countB (bodyOf s) ⟨#[10]⟩ + 1 := Lib.splitB_all _ (by decide) _ _ _ rfl
theorem rows_few (s : ByteArray) : (rowsOf s).length ≤ s.size + 1 := by
  rw [rows_length]
  have := Lib.countB_le ⟨#[10]⟩ (by decide) _ (bodyOf s) (Nat.le_refl _)
  have := body_size s
  omega
/-- While rows are read: the result still zero in block b2, the rows in block g, the map in block b7 with tiles ts and ore os in rows of their own. -/
structure Rd (w : World) (b2 g b7 : Nat) (rows : List ByteArray) (a b : Int) (ts os : List Int) (tv ov : Value) (wr : World) : Prop where
  be : Below w.heap.size w wr
  res : Blk wr b2 [I 0, I 0, .slice none 0 0, .slice none 0 0] 24
  rws : Blk wr g (rows.map Value.string) 9
  mp : Blk wr b7 [I a, I b, tv, ov] 24
  own1 : OwnI wr (b7 + 1) tv ts
  own2 : OwnI wr (b7 + 1) ov os
  apart : ∀ k, tv.ownBlock = some k → ov.ownBlock ≠ some k
  low2 : w.heap.size ≤ b2 ∧ b2 < g ∧ g < b7
theorem OwnI.drewN {w : World} {base : Nat} {v : Value} {xs : List Int} (h : OwnI w base v xs) (n : Nat) : OwnI (w.drewN n) base v xs := h
/-- A tile more. -/
theorem Rd.tile {w wr wr' : World} {b2 g b7 : Nat} {rows : List ByteArray} {a b : Int} {ts os : List Int} {tv ov tv' : Value} {t : Int} (h : Rd w b2 g b7 rows a b ts os tv ov wr) (o : Obj) (hg : Gro (wr.alloc o) tv wr' tv') (ho : OwnI wr' (b7 + 1) tv' (ts ++ [t])) :
    Rd w b2 g b7 rows a b (ts ++ [t]) os tv' ov (wr'.setCell ⟨b7, 2, none⟩ tv') := by
  have l7 := h.mp.lt
  have l2 := h.low2
  have hne : ∀ k, k ≤ b7 → tv.ownBlock ≠ some k := fun k hk e => by have := (h.own1.block k e).1; omega
  have r1 := (hg.blk (h.res.alloc o) (hne _ (by omega))).set_ne ⟨b7, 2, none⟩ (by show b2 ≠ b7; omega) tv'
  have r2 := (hg.blk (h.rws.alloc o) (hne _ (by omega))).set_ne ⟨b7, 2, none⟩ (by show g ≠ b7; omega) tv'
  have r3 := (hg.blk (h.mp.alloc o) (hne _ (by omega))).set 2 tv'
  have hset : ∀ k, b7 + 1 ≤ k → (wr'.setCell ⟨b7, 2, none⟩ tv').heap[k]? = wr'.heap[k]? := fun k hk => Below.heap_setCell _ _ _ _ (by show k ≠ b7; omega)
  have hal : ∀ k, k < wr.heap.size → tv.ownBlock ≠ some k → wr'.heap[k]? = wr.heap[k]? := fun k hk hn => (hg.block k (by simp; omega) hn).trans (Below.heap_alloc _ _ _ hk)
  refine ⟨?_, r1, r2, r3, ho.stay fun k hk => hset k (ho.block k hk).1, h.own2.stay fun k hk => ?_, fun k hk he => ?_, l2⟩
  · refine h.be.trans ⟨hg.os, hg.tape, hg.output, ?_, fun k hk => ?_⟩
    · have := hg.size
      simp at this
      simp; omega
    · rw [Below.heap_setCell _ _ _ _ (by show k ≠ b7; omega)]
      exact hal k (by have := h.be.size; omega) (hne k (by omega))
  · have hb := h.own2.block k hk
    rw [hset k hb.1]
    exact hal k hb.2 (fun e => h.apart k e hk)
  · have hb := h.own2.block k he
    rcases hg.pl with hp | hp
    · exact h.apart k (hp ▸ hk) he
    · have := hp k hk
      simp at this; omega
/-- An amount of ore more. -/
theorem Rd.ore {w wr wr' : World} {b2 g b7 : Nat} {rows : List ByteArray} {a b : Int} {ts os : List Int} {tv ov ov' : Value} {t : Int} (h : Rd w b2 g b7 rows a b ts os tv ov wr) (o : Obj) (hg : Gro (wr.alloc o) ov wr' ov') (ho : OwnI wr' (b7 + 1) ov' (os ++ [t])) :
    Rd w b2 g b7 rows a b ts (os ++ [t]) tv ov' (wr'.setCell ⟨b7, 3, none⟩ ov') := by
  have l7 := h.mp.lt
  have l2 := h.low2
  have hne : ∀ k, k ≤ b7 → ov.ownBlock ≠ some k := fun k hk e => by have := (h.own2.block k e).1; omega
  have r1 := (hg.blk (h.res.alloc o) (hne _ (by omega))).set_ne ⟨b7, 3, none⟩ (by show b2 ≠ b7; omega) ov'
  have r2 := (hg.blk (h.rws.alloc o) (hne _ (by omega))).set_ne ⟨b7, 3, none⟩ (by show g ≠ b7; omega) ov'
  have r3 := (hg.blk (h.mp.alloc o) (hne _ (by omega))).set 3 ov'
  have hset : ∀ k, b7 + 1 ≤ k → (wr'.setCell ⟨b7, 3, none⟩ ov').heap[k]? = wr'.heap[k]? := fun k hk => Below.heap_setCell _ _ _ _ (by show k ≠ b7; omega)
  have hal : ∀ k, k < wr.heap.size → ov.ownBlock ≠ some k → wr'.heap[k]? = wr.heap[k]? := fun k hk hn => (hg.block k (by simp; omega) hn).trans (Below.heap_alloc _ _ _ hk)
  refine ⟨?_, r1, r2, r3, h.own1.stay fun k hk => ?_, ho.stay fun k hk => hset k (ho.block k hk).1, fun k hk he => ?_, l2⟩
  · refine h.be.trans ⟨hg.os, hg.tape, hg.output, ?_, fun k hk => ?_⟩
    · have := hg.size
      simp at this
      simp; omega
    · rw [Below.heap_setCell _ _ _ _ (by show k ≠ b7; omega)]
      exact hal k (by have := h.be.size; omega) (hne k (by omega))
  · have hb := h.own1.block k hk
    rw [hset k hb.1]
    exact hal k hb.2 (fun e => h.apart k hk e)
  · have hb := h.own1.block k hk
    rcases hg.pl with hp | hp
    · exact h.apart k hk (hp ▸ he)
    · have := hp k he
      simp at this; omega
end Go.Proofs.YthinldcblbgdnaaDoor
