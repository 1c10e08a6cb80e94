/- What ReadReplay answers. -/
import Derived.Test.YtpiflgbcbhnmpaaWhole
namespace Go.Proofs.Ytpiflgbcbhnmpaa
open Go.RowKit
def WhRp (w : World) (ks : List Bk) (E : Int) (e : Ending) (w' : World) : Prop := ∃ p N cap, N = ks.length ∧ e = .returned (.tuple #[.slice p N cap, .int .i64 E]) ∧ OwnK w' w.heap.size (.slice p N cap) ks ∧ Below w.heap.size w w'
def wh77 (bs : List Nat) : List Bk := if whE bs.length (pRep (bs, false)).2 = 0 then (pRep (bs, false)).1 else []
theorem OwnK.mono {w : World} {base B : Nat} {v : Value} {ds : List Bk} (h : OwnK w B v ds) (hb : base ≤ B) : OwnK w base v ds := by
  obtain ⟨ess, h1, h2, h3⟩ := h
  exact ⟨ess, h1, ownsRow_mono h2 hb, fun i d es hd he => ⟨(h3 i d es hd he).1, (h3 i d es hd he).2.mono hb⟩⟩
set_option maxRecDepth 100000 in
set_option maxHeartbeats 8000000 in
theorem readWhole77 (bs : List Nat) (hbs : Byt bs) (p : Option Addr) (M cap : Nat) (w : World) (hM : M = bs.length) (hB : BytesAt w (.slice p M cap) bs) :
    Calls Try.prog 77 #[.slice p M cap, .func (.func 78) #[] #[]] w fun e w' => WhRp w (wh77 bs) (whE bs.length (pRep (bs, false)).2) e w' := by
  have HM := hid hM
  obtain ⟨d, s, hds⟩ : ∃ d s, pRep (bs, false) = (d, s) := ⟨_, _, rfl⟩
  unfold wh77
  rw [hds]
  show Calls _ _ _ _ fun e w' => WhRp w (if whE bs.length s = 0 then d else []) (whE bs.length s) e w'
  by_cases hbig : 262144 < bs.length
  · have e1 : (262144 : Int) < (M : Int) := by omega
    rw [show whE bs.length s = 1 by unfold whE; rw [if_pos hbig], if_neg (by decide)]
    clear hB hM hbs hbig hds
    go_enter Try.func77, Try.ntmps77
    go_wp2_with fail
    go_ret2
    exact ⟨none, 0, 0, rfl, rfl, OwnK.nil _ _, Below.refl _ _⟩
  · have e1 : ¬ (262144 : Int) < (M : Int) := by omega
    have hRd := hid (show RdAt (w.alloc (.cells #[.slice p M cap, .bool false] 123)) w.heap.size bs false from ⟨_, Blk.new w [.slice p M cap, .bool false] 123, by
      have h1 := Under.of hB (Nat.le_refl w.heap.size)
      exact h1.only (Only.of_below ((Below.refl _ _).alloc (Nat.le_refl _) _))⟩)
    have hcall := hid (show ∀ W rb, RdAt W rb bs false → Calls Try.prog 78 #[.pointer (some ⟨rb, 0, none⟩)] W fun e w' => LbkOk W rb d s e w' from fun W rb h => by
      have h9 := replay78 rb (bs, false) W h ⟨hbs, by show bs.length < _; omega⟩
      rw [hds] at h9
      exact h9)
    have hE0 : whE bs.length s = if s.2 = true ∨ 0 < s.1.length then 11 else 0 := by unfold whE; rw [if_neg hbig]
    rw [hE0]
    obtain ⟨EF, hEF⟩ : ∃ E : Int, E = (if s.2 = true ∨ 0 < s.1.length then 11 else 0) := ⟨_, rfl⟩
    rw [← hEF]
    obtain ⟨DF, hDF⟩ : ∃ D, D = (if EF = 0 then d else []) := ⟨_, rfl⟩
    rw [← hDF]
    have HBADF := hid (show (s.2 = true ∨ 0 < s.1.length) → EF = 11 ∧ DF = [] from fun h => by rw [if_pos h] at hEF; rw [hEF] at hDF; rw [if_neg (by decide)] at hDF; exact ⟨hEF, hDF⟩)
    have HOKF := hid (show ¬ (s.2 = true ∨ 0 < s.1.length) → EF = 0 ∧ DF = d from fun h => by rw [if_neg h] at hEF; rw [hEF] at hDF; rw [if_pos rfl] at hDF; exact ⟨hEF, hDF⟩)
    clear hB hM hbs hbig hds hE0 hEF hDF
    go_enter Try.func77, Try.ntmps77
    go_wp2_with fail
    refine Calls.mono (hcall.out _ _ hRd.out) ?_
    rintro e w2 ⟨p3, N3, c3, hN3, rfl, hA, hR2, hO2⟩
    have hbe2 := hid (Only.under ((Below.refl w.heap.size w).alloc (Nat.le_refl _) (.cells #[.slice p M cap, .bool false] 123)) hO2 (Nat.le_refl _) (by simp))
    have hA2 := hid (hA.mono (show w.heap.size ≤ _ by simp))
    obtain ⟨v, hK, hU⟩ := hR2
    obtain ⟨p2, c2, rfl, _⟩ := hU
    have c0 : w2.cell? ⟨w.heap.size, 0, none⟩ = some (.slice p2 s.1.length c2) := hK.cell 0
    have c1 : w2.cell? ⟨w.heap.size, 1, none⟩ = some (.bool s.2) := hK.cell 1
    obtain ⟨m2, hm2⟩ : ∃ m2, m2 = s.1.length := ⟨_, rfl⟩
    rw [← hm2] at c0
    have HC := hid (show ∀ b, b = s.2 → (s.2 = true ∨ 0 < s.1.length ↔ b = true ∨ 0 < m2) from fun b hb => by rw [hb, hm2])
    obtain ⟨bd, hbd⟩ : ∃ bd, bd = s.2 := ⟨_, rfl⟩
    have HC2 := hid (HC.out bd hbd)
    rw [← hbd] at c1
    have HN3 := hid hN3
    clear hm2 hbd HC hK hA hO2 hRd hcall hN3
    have hcond : bd = true ∨ (bd = false ∧ 0 < m2) ∨ (bd = false ∧ m2 = 0) := by cases bd <;> simp <;> omega
    rcases hcond with rfl | ⟨rfl, hpos⟩ | ⟨rfl, rfl⟩
    · obtain ⟨q1, q2⟩ := HBADF.out (HC2.out.2 (Or.inl rfl))
      have Q1 := hid q1
      have Q2 := hid q2
      clear q1 q2
      go_wp2_with fail
      go_ret2
      rw [Q1.out, Q2.out]
      exact ⟨none, 0, 0, rfl, rfl, OwnK.nil _ _, hbe2.out⟩
    · obtain ⟨q1, q2⟩ := HBADF.out (HC2.out.2 (Or.inr hpos))
      have Q1 := hid q1
      have Q2 := hid q2
      clear q1 q2
      have hpos' : (0 : Int) < (m2 : Int) := by omega
      go_wp2_with fail
      go_ret2
      rw [Q1.out, Q2.out]
      exact ⟨none, 0, 0, rfl, rfl, OwnK.nil _ _, hbe2.out⟩
    · obtain ⟨q1, q2⟩ := HOKF.out (fun h => by have := HC2.out.1 h; simp at this)
      have Q1 := hid q1
      have Q2 := hid q2
      clear q1 q2
      go_wp2_with fail
      go_ret2
      rw [Q1.out, Q2.out]
      exact ⟨p3, N3, c3, HN3.out, rfl, hA2.out, hbe2.out⟩
set_option maxRecDepth 100000 in
theorem read38f (bs : List Nat) (hbs : Byt bs) (p : Option Addr) (M cap : Nat) (w : World) (hM : M = bs.length) (hB : BytesAt w (.slice p M cap) bs) :
    Calls Try.prog 38 #[.slice p M cap] w fun e w' => WhRp w (wh77 bs) (whE bs.length (pRep (bs, false)).2) e w' := by
  have hc := hid (readWhole77 bs hbs p M cap w hM hB)
  clear hB hbs hM
  generalize wh77 bs = d at *
  generalize whE bs.length (pRep (bs, false)).2 = E at *
  go_enter Try.func38, Try.ntmps38
  go_wp2_with fail
  refine Calls.mono hc.out ?_
  rintro e w1 ⟨p3, N3, c3, hN3, rfl, hA, hb1⟩
  have HN3 := hid hN3
  have hA2 := hid hA
  clear hN3 hA hc
  go_wp2_with fail
  go_ret2
  exact ⟨p3, N3, c3, HN3.out, rfl, hA2.out, hb1⟩
theorem read38 (bs : List Nat) (hbs : Byt bs) (p : Option Addr) (M cap : Nat) (w : World) (hM : M = bs.length) (hB : BytesAt w (.slice p M cap) bs) (_ : M < 100000000000) :
    Calls Try.prog 38 #[.slice p M cap] w fun e w' => WhRp w (wh77 bs) (whE bs.length (pRep (bs, false)).2) e w' := read38f bs hbs p M cap w hM hB
end Go.Proofs.Ytpiflgbcbhnmpaa
