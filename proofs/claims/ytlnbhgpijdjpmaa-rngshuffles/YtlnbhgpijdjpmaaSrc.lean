/- A source: its seed in a block of its own. -/
import Derived.Test.YtlnbhgpijdjpmaaMem
namespace Go.Proofs.Ytlnbhgpijdjpmaa
open Go.RowKit
/-- A source with the seed s lies in block b. -/
def Src (w : World) (b s : Nat) : Prop := Blk w b [.int .u64 (s : Int)] 41
def P (b : Nat) : Value := .pointer (some ⟨b, 0, none⟩)
/-- What is not block b, and lay there, is as it was. -/
structure Only (b : Nat) (w w' : World) : Prop where
  os : w'.os = w.os
  tape : w'.tape = w.tape
  output : w'.output = w.output
  size : w.heap.size ≤ w'.heap.size
  block : ∀ k, k ≠ b → k < w.heap.size → w'.heap[k]? = w.heap[k]?
theorem Only.refl (b : Nat) (w : World) : Only b w w := ⟨rfl, rfl, rfl, Nat.le_refl _, fun _ _ _ => rfl⟩
theorem Only.trans {b : Nat} {w w' w'' : World} (h : Only b w w') (k : Only b w' w'') : Only b w w'' :=
  ⟨k.os.trans h.os, k.tape.trans h.tape, k.output.trans h.output, Nat.le_trans h.size k.size, fun j hj hl => (k.block j hj (Nat.lt_of_lt_of_le hl h.size)).trans (h.block j hj hl)⟩
theorem Only.set (b : Nat) (w : World) (v : Value) : Only b w (w.setCell ⟨b, 0, none⟩ v) :=
  ⟨rfl, rfl, rfl, by simp, fun k hk _ => Below.heap_setCell _ _ _ _ hk⟩
theorem Only.below {b B : Nat} {a w w' : World} (h : Below B a w) (k : Only b w w') (hb : B ≤ b) (hB : B ≤ w.heap.size) : Below B a w' :=
  ⟨k.os.trans h.os, k.tape.trans h.tape, k.output.trans h.output, Nat.le_trans h.size k.size, fun j hj => (k.block j (by omega) (by omega)).trans (h.block j hj)⟩
theorem Only.src {b c t : Nat} {w w' : World} (k : Only b w w') (h : Src w c t) (hn : c ≠ b) : Src w' c t := by
  have hl := Blk.lt h
  unfold Src Blk at *
  rw [k.block c hn hl]; exact h
theorem Only.blk {b c : Nat} {w w' : World} {l : List Value} {t : TypeId} (k : Only b w w') (h : Blk w c l t) (hn : c ≠ b) : Blk w' c l t := by
  have hl := Blk.lt h
  unfold Blk at *
  rw [k.block c hn hl]; exact h
theorem Src.set {w : World} {b s : Nat} (h : Src w b s) (t : Nat) : Src (w.setCell ⟨b, 0, none⟩ (.int .u64 (t : Int))) b t := by
  have := Blk.set h 0 (.int .u64 (t : Int))
  exact this
theorem Src.lt {w : World} {b s : Nat} (h : Src w b s) : b < w.heap.size := Blk.lt h
theorem Src.new (w : World) (s : Nat) : Src (w.alloc (.cells #[.int .u64 (s : Int)] 41)) w.heap.size s := Blk.new w [.int .u64 (s : Int)] 41
/-- What a call on the source in block b answers: v, and leaves the seed t. -/
def OutS (w : World) (b t : Nat) (v : Value) (e : Ending) (w' : World) : Prop := e = .returned v ∧ Src w' b t ∧ Only b w w'
set_option maxHeartbeats 1000000 in
theorem new_any (s : Nat) (w : World) : Calls Try.prog 11 #[.int .u64 (s : Int)] w fun e w' => e = .returned (P w.heap.size) ∧ w' = w.alloc (.cells #[.int .u64 (s : Int)] 41) := by
  go_enter Try.func11, Try.ntmps11
  go_wp2
  go_ret
  exact ⟨rfl, rfl⟩
set_option maxHeartbeats 1000000 in
theorem seed_any (b s : Nat) (w : World) (h : Src w b s) : Calls Try.prog 14 #[P b] w fun e w' => e = .returned (.int .u64 (s : Int)) ∧ w' = w := by
  have hc : w.cell? ⟨b, 0, none⟩ = some (.int .u64 (s : Int)) := by rw [Blk.cell h]; rfl
  unfold P
  go_enter Try.func14, Try.ntmps14
  go_wp2
  go_ret
  exact ⟨rfl, rfl⟩
set_option maxHeartbeats 1000000 in
theorem next_set (b s : Nat) (w : World) (h : Src w b s) : Calls Try.prog 13 #[P b] w fun e w' => e = .returned (.int .u64 (scat (nxt s) : Int)) ∧ w' = w.setCell ⟨b, 0, none⟩ (.int .u64 (nxt s : Int)) := by
  have hc : w.cell? ⟨b, 0, none⟩ = some (.int .u64 (s : Int)) := by rw [Blk.cell h]; rfl
  have hf := Blk.frozen h 0
  have e0 : IntKind.u64.wrap ((s : Int) + 11400714819323198485) = (nxt s : Int) := by rw [IntKind.wrap_u64]; unfold nxt; omega
  have hz := nxt_lt s
  have hx : Hid (∀ W, Calls Try.prog 19 #[.int .u64 (nxt s : Int)] W fun e w' => e = .returned (.int .u64 (scat (nxt s) : Int)) ∧ w' = W) := scatter_any (nxt s) hz
  unfold P
  generalize scat (nxt s) = f at *
  generalize nxt s = z at *
  go_enter Try.func13, Try.ntmps13
  go_wp2_with (go_at_call 19; refine Calls.mono (hx.out _) ?_; rintro e w1 ⟨rfl, rfl⟩)
  go_ret
  exact ⟨rfl, rfl⟩
theorem next_any (b s : Nat) (w : World) (h : Src w b s) : Calls Try.prog 13 #[P b] w fun e w' => OutS w b (nxt s) (.int .u64 (scat (nxt s) : Int)) e w' := by
  refine (next_set b s w h).mono ?_
  rintro e w' ⟨rfl, rfl⟩
  exact ⟨rfl, h.set _, Only.set b w _⟩
set_option maxHeartbeats 1000000 in
theorem awake_any (w : World) : Calls Try.prog 8 #[] w fun e w' => e = .returned (.bool true) ∧ Below w.heap.size w w' := by
  have h11 : Hid (∀ W, Calls Try.prog 11 #[.int .u64 0] W fun e w' => e = .returned (P W.heap.size) ∧ w' = W.alloc (.cells #[.int .u64 0] 41)) := fun W => new_any 0 W
  have h13 : Hid (∀ W b, Src W b 0 → Calls Try.prog 13 #[P b] W fun e w' => OutS W b (nxt 0) (.int .u64 16294208416658607535) e w') := fun W b h => by
    have := next_any b 0 W h
    rw [show scat (nxt 0) = 16294208416658607535 by decide +kernel] at this
    exact this
  go_enter Try.func8, Try.ntmps8
  go_wp2_with (go_at_call 11; refine Calls.mono (h11.out _) ?_; rintro e w1 ⟨rfl, rfl⟩)
  refine Calls.mono (h13.out _ _ (Src.new w 0)) ?_
  rintro e w1 ⟨rfl, hs, ho⟩
  have hb := ho.below ((Below.refl _ w).alloc (Nat.le_refl _) _) (Nat.le_refl _) (by simp)
  clear hs ho
  go_wp2
  go_ret
  exact ⟨rfl, hb⟩
end Go.Proofs.Ytlnbhgpijdjpmaa
