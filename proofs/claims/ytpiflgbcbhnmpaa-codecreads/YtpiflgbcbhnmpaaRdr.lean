/- The reader: its bytes and its flag in memory; fail, number, upTo. -/
import Derived.Test.YtpiflgbcbhnmpaaRead
import Derived.Test.YtpiflgbcbhnmpaaMem
namespace Go.Proofs.Ytpiflgbcbhnmpaa
open Go.RowKit
/-- Of what was there nothing has turned but block hb. -/
structure Only (hb : Nat) (w w' : World) : Prop where
  os : w'.os = w.os
  tape : w'.tape = w.tape
  output : w'.output = w.output
  size : w.heap.size ≤ w'.heap.size
  block : ∀ k, k < w.heap.size → k ≠ hb → w'.heap[k]? = w.heap[k]?
theorem Only.refl (hb : Nat) (w : World) : Only hb w w := ⟨rfl, rfl, rfl, Nat.le_refl _, fun _ _ _ => rfl⟩
theorem Only.trans {hb : Nat} {a b c : World} (h : Only hb a b) (k : Only hb b c) : Only hb a c :=
  ⟨k.os.trans h.os, k.tape.trans h.tape, k.output.trans h.output, Nat.le_trans h.size k.size, fun i hi hn => (k.block i (Nat.lt_of_lt_of_le hi h.size) hn).trans (h.block i hi hn)⟩
theorem Only.of_below {hb : Nat} {a b : World} (h : Below a.heap.size a b) : Only hb a b := ⟨h.os, h.tape, h.output, h.size, fun k hk _ => h.block k hk⟩
theorem Only.setCell {hb : Nat} {a b : World} (h : Only hb a b) (o : Nat) (v : Value) : Only hb a (b.setCell ⟨hb, o, none⟩ v) :=
  h.trans ⟨rfl, rfl, rfl, by simp [World.setCell], fun k _ hn => Below.heap_setCell _ _ _ _ hn⟩
/-- What is written in a block that wasn't there does not count. -/
theorem Only.setNew {hb : Nat} {a b : World} (h : Only hb a b) {g : Nat} (hg : a.heap.size ≤ g) (o : Nat) (v : Value) : Only hb a (b.setCell ⟨g, o, none⟩ v) :=
  ⟨h.os, h.tape, h.output, by simpa [World.setCell] using h.size, fun k hk hn => by rw [Below.heap_setCell _ _ _ _ (by show k ≠ g; omega)]; exact h.block k hk hn⟩
theorem Only.setCellsNew {hb : Nat} {a b : World} (h : Only hb a b) {g : Nat} (hg : a.heap.size ≤ g) (o : Nat) (vs : List Value) : Only hb a (b.setCells g o vs) :=
  ⟨(misc_setCells g vs o b).1.trans h.os, (misc_setCells g vs o b).2.1.trans h.tape, (misc_setCells g vs o b).2.2.trans h.output, by rw [size_setCells]; exact h.size, fun k hk hn => by rw [heap_setCells g vs o b k (by omega)]; exact h.block k hk hn⟩
theorem Only.drew {hb : Nat} {a b : World} (h : Only hb a b) : Only hb a b.drew := ⟨h.os, h.tape, h.output, h.size, h.block⟩
theorem Only.alloc {hb : Nat} {a b : World} (h : Only hb a b) (o : Obj) : Only hb a (b.alloc o) :=
  h.trans (Only.of_below ((Below.refl _ _).alloc (Nat.le_refl _) o))
theorem Only.below {hb B : Nat} {a b : World} (h : Only hb a b) (hB : B ≤ hb) (hs : B ≤ a.heap.size) : Below B a b :=
  ⟨h.os, h.tape, h.output, h.size, fun k hk => h.block k (by omega) (by omega)⟩
theorem Only.cell {hb : Nat} {a b : World} (h : Only hb a b) {p : Addr} (hp : p.block < a.heap.size) (hn : p.block ≠ hb) : b.cell? p = a.cell? p := World.cell?_of_block (w := a) (h.block p.block hp hn)
theorem Only.blk {hb : Nat} {a b : World} (h : Only hb a b) {g : Nat} {l : List Value} {t : TypeId} (hl : Blk a g l t) (hn : g ≠ hb) : Blk b g l t := by
  have := hl.lt
  unfold Blk at *; rw [h.block g this hn]; exact hl
/-- The bytes that the slice v holds lie below block rb. -/
def Under (w : World) (rb : Nat) (v : Value) (bs : List Nat) : Prop :=
  ∃ p cap, v = .slice p bs.length cap ∧ bs.length ≤ cap ∧ (p = none → cap = 0) ∧ (bs ≠ [] → ∃ sb so, p = some ⟨sb, so, none⟩ ∧ sb < rb ∧ ∀ i, i < bs.length → w.cell? ⟨sb, so + i, none⟩ = some (By (bs.getD i 0)))
theorem Under.bytes {w : World} {rb : Nat} {v : Value} {bs : List Nat} (h : Under w rb v bs) : BytesAt w v bs := by
  obtain ⟨p, cap, rfl, hc, hz, h⟩ := h
  exact ⟨p, cap, rfl, hc, hz, fun hn => by obtain ⟨sb, so, rfl, _, hcell⟩ := h hn; exact ⟨sb, so, rfl, hcell⟩⟩
theorem Under.of {w : World} {v : Value} {bs : List Nat} (h : BytesAt w v bs) {rb : Nat} (hr : w.heap.size ≤ rb) : Under w rb v bs := by
  obtain ⟨p, cap, rfl, hc, hz, h⟩ := h
  refine ⟨p, cap, rfl, hc, hz, fun hn => ?_⟩
  obtain ⟨sb, so, rfl, hcell⟩ := h hn
  have : sb < w.heap.size := lt_of_cell (hcell 0 (List.length_pos_iff.2 hn))
  exact ⟨sb, so, rfl, by omega, hcell⟩
theorem Under.only {w w' : World} {rb : Nat} {v : Value} {bs : List Nat} (h : Under w rb v bs) (ho : Only rb w w') : Under w' rb v bs := by
  obtain ⟨p, cap, rfl, hc, hz, h⟩ := h
  refine ⟨p, cap, rfl, hc, hz, fun hn => ?_⟩
  obtain ⟨sb, so, rfl, hlt, hcell⟩ := h hn
  refine ⟨sb, so, rfl, hlt, fun i hi => ?_⟩
  rw [ho.cell (p := ⟨sb, so + i, none⟩) (lt_of_cell (hcell i hi)) (by show sb ≠ rb; omega)]
  exact hcell i hi
theorem Under.drop {w : World} {rb sb so M cap : Nat} {bs : List Nat} (h : Under w rb (.slice (some ⟨sb, so, none⟩) M cap) bs) (s : Nat) (hs : s ≤ bs.length) :
    (cap = s → Under w rb (.slice (some ⟨sb, so, none⟩) (M - s) 0) (bs.drop s)) ∧ (¬ cap = s → Under w rb (.slice (some ⟨sb, so + s, none⟩) (M - s) (cap - s)) (bs.drop s)) := by
  have hb := h.bytes
  obtain ⟨p, c, he, hc, hz, h⟩ := h
  simp at he
  obtain ⟨rfl, rfl, rfl⟩ := he
  obtain ⟨h1, h2⟩ := bytes_drop rfl hb hs hc
  refine ⟨fun he => ?_, fun he => ?_⟩
  · obtain ⟨p', c', e', a1, a2, a3⟩ := h1 he
    refine ⟨p', c', e', a1, a2, fun hn => ?_⟩
    have hl : bs.length ≤ s := by omega
    exact absurd (List.drop_eq_nil_of_le hl) hn
  · obtain ⟨p', c', e', a1, a2, a3⟩ := h2 he
    refine ⟨p', c', e', a1, a2, fun hn => ?_⟩
    obtain ⟨sb', so', e2, hcell⟩ := a3 hn
    refine ⟨sb', so', e2, ?_, hcell⟩
    simp at e'
    obtain ⟨rfl, _⟩ := e'
    simp at e2
    obtain ⟨rfl, _⟩ := e2
    have hne : bs ≠ [] := by rintro rfl; simp at hn
    obtain ⟨sb2, so2, e3, hlt, _⟩ := h hne
    simp at e3
    obtain ⟨rfl, _⟩ := e3
    exact hlt
/-- A reader in memory. -/
def RdAt (w : World) (rb : Nat) (bs : List Nat) (bad : Bool) : Prop := ∃ v, Blk w rb [v, .bool bad] 123 ∧ Under w rb v bs
theorem RdAt.lt {w : World} {rb : Nat} {bs : List Nat} {bad : Bool} (h : RdAt w rb bs bad) : rb < w.heap.size := by obtain ⟨v, h, _⟩ := h; exact h.lt
theorem RdAt.below {w w' : World} {rb : Nat} {bs : List Nat} {bad : Bool} (h : RdAt w rb bs bad) (hb : Below w.heap.size w w') : RdAt w' rb bs bad := by
  obtain ⟨v, h1, h2⟩ := h
  exact ⟨v, h1.below hb h1.lt, h2.only (Only.of_below hb)⟩
/-- What is read, and what is left. -/
def pNum (most : Nat) (bs : List Nat) (bad : Bool) : Nat × List Nat × Bool := if joinS bs = 0 ∨ most < joinN bs then (0, [], true) else (joinN bs, bs.drop (joinS bs), bad)
set_option maxRecDepth 100000 in
theorem fail_any (rb : Nat) (bs : List Nat) (bad : Bool) (w : World) (h : RdAt w rb bs bad) : Calls Try.prog 96 #[.pointer (some ⟨rb, 0, none⟩)] w fun e w' => e = .returned (.tuple #[]) ∧ RdAt w' rb [] true ∧ Only rb w w' := by
  obtain ⟨v, hK, hU⟩ := h
  have c0 := hK.cell 0
  have c1 := hK.cell 1
  have f0 := hK.frozen 0
  have f1 := hK.frozen 1
  simp only [List.getElem?_cons_zero, List.getElem?_cons_succ] at c0 c1
  go_enter Try.func96, Try.ntmps96
  go_wp2
  go_end0
  refine ⟨rfl, ⟨_, (hK.set 1 (.bool true)).set 0 (.slice none 0 0), none, 0, rfl, by simp, fun _ => rfl, fun h => absurd rfl h⟩, ?_⟩
  exact ((Only.refl rb w).setCell 1 _).setCell 0 _
/-- Bytes, each below 256. -/
def Byt (bs : List Nat) : Prop := ∀ x ∈ bs, x < 256
theorem Byt.drop {bs : List Nat} (h : Byt bs) (n : Nat) : Byt (bs.drop n) := fun x hx => h x (List.mem_of_mem_drop hx)
theorem Byt.nil : Byt [] := fun x hx => by simp at hx
theorem pNum_byt {most : Nat} {bs : List Nat} {bad : Bool} (h : Byt bs) : Byt (pNum most bs bad).2.1 := by
  unfold pNum; split
  · exact Byt.nil
  · exact h.drop _
theorem pNum_len {most : Nat} {bs : List Nat} {bad : Bool} : (pNum most bs bad).2.1.length ≤ bs.length := by
  unfold pNum; split <;> simp
theorem pNum_le {most : Nat} {bs : List Nat} {bad : Bool} : (pNum most bs bad).1 ≤ most := by
  unfold pNum; split
  · exact Nat.zero_le _
  · show joinN bs ≤ most; omega
set_option maxRecDepth 100000 in
set_option maxHeartbeats 1000000 in
theorem number91 (most rb : Nat) (bs : List Nat) (bad : Bool) (w : World) (h : RdAt w rb bs bad) (hbs : Byt bs) (hsz : bs.length < 100000000000) :
    Calls Try.prog 91 #[.pointer (some ⟨rb, 0, none⟩), .int .u64 (most : Int)] w fun e w' => e = .returned (.int .u64 ((pNum most bs bad).1 : Int)) ∧ RdAt w' rb (pNum most bs bad).2.1 (pNum most bs bad).2.2 ∧ Only rb w w' := by
  have hF := fail_any rb bs bad w h
  have h' := h
  obtain ⟨v, hK, hU⟩ := h
  have hB := hU.bytes
  obtain ⟨p, cap, rfl, hcap, hz, hcell⟩ := hU
  have hU : Under w rb (.slice p bs.length cap) bs := ⟨p, cap, rfl, hcap, hz, hcell⟩
  have hj := joinSevens_any bs hbs p bs.length cap w rfl hB hsz
  have hle := joinS_le bs
  have c0 := hK.cell 0
  have c1 := hK.cell 1
  have f0 := hK.frozen 0
  have f1 := hK.frozen 1
  simp only [List.getElem?_cons_zero, List.getElem?_cons_succ] at c0 c1
  obtain ⟨M, hM⟩ : ∃ M, M = bs.length := ⟨_, rfl⟩
  rw [← hM] at hj c0 hK hU hcap hle
  have HM : Hid (M = bs.length) := hM
  unfold JoinOk at hj
  by_cases hc : joinS bs = 0 ∨ most < joinN bs
  · have hp : pNum most bs bad = (0, [], true) := by unfold pNum; rw [if_pos hc]
    rw [hp]
    have HF : Hid (Calls Try.prog 96 #[.pointer (some ⟨rb, 0, none⟩)] w fun e w' => e = .returned (.tuple #[]) ∧ RdAt w' rb [] true ∧ Only rb w w') := hF
    clear hF hU hB hcell hz hM hbs h' hp
    generalize joinN bs = n at *
    generalize joinS bs = s at *
    have e1 : s = 0 ∨ (((s : Int) == 0) = false ∧ (most : Int) < (n : Int)) := by simp; omega
    rcases e1 with rfl | ⟨e1, e2⟩
    · go_enter Try.func91, Try.ntmps91
      go_wp2_with fail
      refine Calls.mono hj ?_
      rintro e w1 ⟨rfl, rfl⟩
      go_wp2_with fail
      refine Calls.mono HF.out ?_
      rintro e w2 ⟨rfl, hR, hO⟩
      go_wp2
      go_ret
      exact ⟨rfl, hR, hO⟩
    · go_enter Try.func91, Try.ntmps91
      go_wp2_with fail
      refine Calls.mono hj ?_
      rintro e w1 ⟨rfl, rfl⟩
      go_wp2_with fail
      refine Calls.mono HF.out ?_
      rintro e w2 ⟨rfl, hR, hO⟩
      go_wp2
      go_ret
      exact ⟨rfl, hR, hO⟩
  · have hp : pNum most bs bad = (joinN bs, bs.drop (joinS bs), bad) := by unfold pNum; rw [if_neg hc]
    rw [hp]
    have hne : bs ≠ [] := by rintro rfl; simp at hM; omega
    obtain ⟨sb, so, rfl, hlt, _⟩ := hcell hne
    have hD := hU.drop (joinS bs) (by omega)
    generalize joinN bs = n at *
    generalize joinS bs = s at *
    have HD : Hid ((cap = s → Under w rb (.slice (some ⟨sb, so, none⟩) (M - s) 0) (bs.drop s)) ∧ (¬ cap = s → Under w rb (.slice (some ⟨sb, so + s, none⟩) (M - s) (cap - s)) (bs.drop s))) := hD
    have e1 : ((s : Int) == 0) = false := by simp; omega
    have e2 : ¬ (most : Int) < (n : Int) := by omega
    have e3 : (0 : Int) ≤ (s : Int) := by omega
    have e4 : (s : Int) ≤ (M : Int) := by omega
    have HS : Hid (∀ x, Blk (w.setCell ⟨rb, 0, none⟩ x) rb [x, .bool bad] 123) := fun x => hK.set 0 x
    clear hF hU hB hcell hz hM hbs h' hp hD hK hc hne
    go_enter Try.func91, Try.ntmps91
    go_wp2_with fail
    refine Calls.mono hj ?_
    rintro e w1 ⟨rfl, rfl⟩
    by_cases hcs : cap = s
    · have hU2 := HD.out.1 hcs
      subst hcs
      rw [show M - cap = 0 by omega] at hU2
      clear HD hj
      go_wp2
      go_ret
      exact ⟨rfl, ⟨_, HS.out _, hU2.only ((Only.refl rb _).setCell 0 _)⟩, (Only.refl rb _).setCell 0 _⟩
    · have hU2 := HD.out.2 hcs
      clear HD hj
      go_wp2
      go_ret
      exact ⟨rfl, ⟨_, HS.out _, hU2.only ((Only.refl rb _).setCell 0 _)⟩, (Only.refl rb _).setCell 0 _⟩
set_option maxRecDepth 100000 in
theorem upTo92 (most rb : Nat) (hmost : most < 4611686018427387904) (bs : List Nat) (bad : Bool) (w : World) (h : RdAt w rb bs bad) (hbs : Byt bs) (hsz : bs.length < 100000000000) :
    Calls Try.prog 92 #[.pointer (some ⟨rb, 0, none⟩), .int .i64 (most : Int)] w fun e w' => e = .returned (.int .i64 ((pNum most bs bad).1 : Int)) ∧ RdAt w' rb (pNum most bs bad).2.1 (pNum most bs bad).2.2 ∧ Only rb w w' := by
  have hn : Hid _ := number91 most rb bs bad w h hbs hsz
  have hl := pNum_le (most := most) (bs := bs) (bad := bad)
  clear h hbs
  generalize (pNum most bs bad).1 = n at *
  go_enter Try.func92, Try.ntmps92
  go_wp2_with fail
  refine Calls.mono hn.out ?_
  rintro e w1 ⟨rfl, hR, hO⟩
  go_wp2
  go_ret
  exact ⟨rfl, hR, hO⟩
end Go.Proofs.Ytpiflgbcbhnmpaa
