/- What allFormed answers of commands, and sealedFormed. -/
import Derived.Test.YtpiflgbcbhnmpaaLst
import Derived.Test.YtpiflgbcbhnmpaaFormedAll
namespace Go.Proofs.Ytpiflgbcbhnmpaa
open Go.RowKit
/-- v is a slice of the commands cs. -/
def CmdsAt (w : World) (v : Value) (cs : List C6) : Prop :=
  ∃ p cap, v = .slice p cs.length cap ∧ (cs ≠ [] → ∃ b o, p = some ⟨b, o, none⟩ ∧ ∀ (i : Nat) (c : C6), cs[i]? = some c → ∀ (j : Nat) (u : Value), c.cells[j]? = some u → w.cell? ⟨b, o + i * 6 + j, none⟩ = some u)
theorem CmdsAt.below {w w' : World} {v : Value} {cs : List C6} (h : CmdsAt w v cs) (hb : Below w.heap.size w w') : CmdsAt w' v cs := by
  obtain ⟨p, cap, rfl, h⟩ := h
  refine ⟨p, cap, rfl, fun hn => ?_⟩
  obtain ⟨b, o, rfl, hc⟩ := h hn
  exact ⟨b, o, rfl, fun i c hi j u hu => by rw [hb.cell (p := ⟨b, o + i * 6 + j, none⟩) (lt_of_cell (hc i c hi j u hu))]; exact hc i c hi j u hu⟩
theorem flat_get (cs : List C6) : ∀ (i : Nat) (c : C6) (j : Nat) (u : Value), cs[i]? = some c → c.cells[j]? = some u → (cs.flatMap C6.cells)[i * 6 + j]? = some u := by
  induction cs with
  | nil => intro i c j u h; simp at h
  | cons x r ih =>
    intro i c j u h hu
    have hx : x.cells.length = 6 := rfl
    rw [List.flatMap_cons]
    rcases i with _ | i
    · simp at h; subst h
      have hj : j < x.cells.length := (List.getElem?_eq_some_iff.1 hu).1
      rw [Nat.zero_mul, Nat.zero_add, List.getElem?_append_left hj]
      exact hu
    · rw [List.getElem?_append_right (by rw [hx]; omega), hx, show (i + 1) * 6 + j - 6 = i * 6 + j by omega]
      exact ih i c j u (by simpa using h) hu
theorem OwnC.at {w : World} {base : Nat} {v : Value} {cs : List C6} (h : OwnC w base v cs) : CmdsAt w v cs := by
  obtain ⟨_, ⟨rfl, hn⟩ | ⟨g, cap, cur, rfl, hg, hh, hc, hm, hcs, ht⟩⟩ := h
  · exact ⟨none, 0, by rw [hn], fun hne => absurd (List.eq_nil_of_length_eq_zero hn) hne⟩
  · refine ⟨_, cap, rfl, fun _ => ⟨g, 0, rfl, fun i c hi j u hu => ?_⟩⟩
    have h1 := flat_get cs i c j u hi hu
    rw [← ht] at h1
    rw [List.getElem?_take] at h1
    split at h1
    · rw [Nat.zero_add, cell_of_row _ _ _ _ _ _ hh, ← Array.getElem?_toList]; exact h1
    · cases h1
def C6.ok (c : C6) : Bool := frm c.k c.u c.t c.h c.x c.y
def cmdsOk (cs : List C6) : Bool := decide (cs.length ≤ 5) && cs.all C6.ok
set_option maxRecDepth 100000 in
set_option maxHeartbeats 4000000 in
theorem allFormed83 (cs : List C6) (p : Option Addr) (N cap : Nat) (w : World) (hN : N = cs.length) (h : CmdsAt w (.slice p N cap) cs) (hsz : N < 1000000000) :
    Calls Try.prog 83 #[.slice p N cap, .int .i64 5, .func (.func 24) #[] #[]] w fun e w' => e = .returned (.bool (cmdsOk cs)) ∧ Below w.heap.size w w' := by
  have hF : Hid (∀ (c : C6) W, Calls Try.prog 24 #[.agg #[.int .i64 c.k, .int .i64 c.u, .int .i64 c.t, .int .i64 c.h, .int .i64 c.x, .int .i64 c.y]] W fun e w' => e = .returned (.bool c.ok) ∧ Below W.heap.size W w') := fun c W => formed_any _ _ _ _ _ _ W
  have H0 : Hid (cs ≠ [] → ∃ b o, p = some ⟨b, o, none⟩ ∧ ∀ (i : Nat) (c : C6), cs[i]? = some c → ∀ (j : Nat) (u : Value), c.cells[j]? = some u → w.cell? ⟨b, o + i * 6 + j, none⟩ = some u) := by
    obtain ⟨p', c', he, h⟩ := h
    simp at he
    obtain ⟨rfl, _, rfl⟩ := he
    exact h
  have HN := hid hN
  by_cases h5 : cs.length ≤ 5
  · have hk : cmdsOk cs = cs.all C6.ok := by unfold cmdsOk; rw [decide_eq_true h5, Bool.true_and]
    rw [hk]
    have e1 : ¬ (5 : Int) < (N : Int) := by omega
    clear h hN h5 hk
    go_enter Try.func83, Try.ntmps83
    go_wp2_with fail
    go_loopw [15] (fun iv wr => ∃ i : Nat, iv = .int .i64 (i : Nat) ∧ i ≤ N ∧ Hid (cs.all C6.ok = (cs.drop i).all C6.ok) ∧ Hid (Below w.heap.size w wr)) (fun iv _ => N - natOf iv)
    case atStart => exact ⟨0, rfl, by omega, rfl, Below.refl _ _⟩
    case round =>
      obtain ⟨i, rfl, hi, hA, hbe⟩ := hrel
      have w1' : IntKind.i64.wrap ((i : Int) + 1) = (i : Int) + 1 := by rw [IntKind.wrap_i64]; omega
      by_cases hlt : i < N
      · have hlb : i < cs.length := by have := HN.out; omega
        have hne : cs ≠ [] := by rintro rfl; simp at hlb
        obtain ⟨b, o, rfl, hc⟩ := H0.out hne
        obtain ⟨c, hci⟩ : ∃ c, cs[i]? = some c := ⟨_, List.getElem?_eq_getElem hlb⟩
        have hcc : ∀ (j : Nat) (u : Value), c.cells[j]? = some u → wr.cell? ⟨b, o + i * 6 + j, none⟩ = some u := fun j u hu => by
          have := hc i c hci j u hu
          rw [hbe.out.cell (p := ⟨b, o + i * 6 + j, none⟩) (lt_of_cell this)]; exact this
        have c0 : wr.cell? ⟨b, o + i * 6, none⟩ = some (.int .i64 c.k) := hcc 0 _ rfl
        have c1 := hcc 1 _ rfl
        have c2 := hcc 2 _ rfl
        have c3 := hcc 3 _ rfl
        have c4 := hcc 4 _ rfl
        have c5 := hcc 5 _ rfl
        have HA2 : Hid (cs.all C6.ok = (c.ok && (cs.drop (i + 1)).all C6.ok)) := by
          show _ = _
          rw [hA.out, List.drop_eq_getElem_cons hlb, List.all_cons, (List.getElem?_eq_some_iff.1 hci).2]
        have e2 : (i : Int) < (N : Int) := by omega
        have e3 : (0 : Int) ≤ (i : Int) := by omega
        have hcall := hid (hF.out c)
        obtain ⟨q, hq⟩ : ∃ q, q = c.ok := ⟨_, rfl⟩
        rw [← hq] at HA2 hcall
        obtain ⟨k, u, t, h, x, y⟩ := c
        simp only at c0 c1 c2 c3 c4 c5 hcall
        clear hcc hc hci hA hne hq
        have HB2 := hid (show ∀ o w2, Below (wr.alloc o).heap.size (wr.alloc o) w2 → Below w.heap.size w w2 from fun o w2 hb => by
          have h1 := hbe.out.alloc hbe.out.size o
          exact h1.trans (hb.mono h1.size))
        rcases q with _ | _
        · go_wp2_with (go_at_call 24; refine Calls.mono (hcall.out _) ?_; rintro e w2 ⟨rfl, hb2⟩)
          go_ret
          exact ⟨by rw [HA2.out]; rfl, HB2.out _ _ hb2⟩
        · rw [Bool.true_and] at HA2
          go_wp2_with (go_at_call 24; refine Calls.mono (hcall.out _) ?_; rintro e w2 ⟨rfl, hb2⟩)
          go_roundw
          case rel => exact ⟨i + 1, by go_num, by omega, HA2, HB2.out _ _ hb2⟩
          case measure => simp [natOf]; omega
      · have e2 : ¬ (i : Int) < (N : Int) := by omega
        have HA2 : Hid (cs.all C6.ok = true) := by
          show _ = _
          rw [hA.out, List.drop_eq_nil_of_le (by have := HN.out; omega)]; rfl
        clear hA
        go_wp2_with fail
        go_ret
        exact ⟨by rw [HA2.out]; rfl, hbe.out⟩
  · have hk : cmdsOk cs = false := by unfold cmdsOk; rw [decide_eq_false h5, Bool.false_and]
    rw [hk]
    have e1 : (5 : Int) < (N : Int) := by omega
    clear h hN h5 hk
    go_enter Try.func83, Try.ntmps83
    go_wp2_with fail
    go_ret
    exact ⟨rfl, Below.refl _ _⟩
/-- Sealed commands; cv is the slice in which the commands lie. -/
structure Sd where
  m : Nat
  pl : Int
  tn : Int
  em : Bool
  cs : List C6
  tag : List Nat
def Sd.cells (d : Sd) (cv : Value) : List Value := .int .u64 (d.m : Int) :: .int .i64 d.pl :: .int .i64 d.tn :: .bool d.em :: cv :: d.tag.map By
def Sd.ok (d : Sd) : Bool := decide (d.m ≤ 9223372036854775807) && rng d.pl 3 && rng d.tn 59 && !(d.em && decide (0 < d.cs.length)) && cmdsOk d.cs
set_option maxRecDepth 100000 in
set_option maxHeartbeats 4000000 in
theorem sealedFormed51 (d : Sd) (hm : d.m < 18446744073709551616) (p : Option Addr) (N cap : Nat) (w : World) (hN : N = d.cs.length) (h : CmdsAt w (.slice p N cap) d.cs) (hsz : N < 1000000000) :
    Calls Try.prog 51 #[.agg (d.cells (.slice p N cap)).toArray] w fun e w' => e = .returned (.bool d.ok) ∧ Below w.heap.size w w' := by
  have hw : Hid (∀ a b W, Calls Try.prog 82 #[.int .i64 a, .int .i64 b] W fun e w' => e = .returned (.bool (rng a b)) ∧ w' = W) := fun a b W => within_any a b W
  have hB := Blk.new w (d.cells (.slice p N cap)) 47
  have hbe : Below w.heap.size w (w.alloc (.cells (d.cells (.slice p N cap)).toArray 47)) := (Below.refl _ _).alloc (Nat.le_refl _) _
  have hA : Hid (∀ W, Below w.heap.size w W → Calls Try.prog 83 #[.slice p N cap, .int .i64 5, .func (.func 24) #[] #[]] W fun e w' => e = .returned (.bool (cmdsOk d.cs)) ∧ Below W.heap.size W w') := fun W hb => allFormed83 d.cs p N cap W hN (h.below hb) hsz
  have c0 := hB.cell 0
  have c1 := hB.cell 1
  have c2 := hB.cell 2
  have c3 := hB.cell 3
  have c4 := hB.cell 4
  rw [show (d.cells (.slice p N cap))[0]? = some (.int .u64 (d.m : Int)) from rfl] at c0
  rw [show (d.cells (.slice p N cap))[1]? = some (.int .i64 d.pl) from rfl] at c1
  rw [show (d.cells (.slice p N cap))[2]? = some (.int .i64 d.tn) from rfl] at c2
  rw [show (d.cells (.slice p N cap))[3]? = some (.bool d.em) from rfl] at c3
  rw [show (d.cells (.slice p N cap))[4]? = some (.slice p N cap) from rfl] at c4
  unfold Sd.ok
  have hNl : d.cs.length = N := hN.symm
  rw [hNl]
  generalize cmdsOk d.cs = qa at *
  have HBE := hid hbe
  obtain ⟨X, hX⟩ : ∃ X, X = d.cells (.slice p N cap) := ⟨_, rfl⟩
  rw [← hX] at c0 c1 c2 c3 c4 HBE ⊢
  obtain ⟨m, pl, tn, em, cs, tag⟩ := d
  simp only at hm c0 c1 c2 c3 hNl ⊢
  clear h hN hB hbe hX hNl
  rcases Bool.eq_false_or_eq_true (decide (m ≤ 9223372036854775807)) with a1 | a1
  · have b1 : ¬ (9223372036854775807 : Int) < (m : Int) := by have := of_decide_eq_true a1; omega
    rw [a1]
    rcases a2 : rng pl 3 with _ | _
    · go_enter Try.func51, Try.ntmps51
      go_wp2_with (go_at_call 82; refine Calls.mono (hw.out _ _ _) ?_; rintro e w2 ⟨rfl, rfl⟩)
      go_ret
      exact ⟨rfl, HBE.out⟩
    · rcases a3 : rng tn 59 with _ | _
      · go_enter Try.func51, Try.ntmps51
        go_wp2_with (go_at_call 82; refine Calls.mono (hw.out _ _ _) ?_; rintro e w2 ⟨rfl, rfl⟩)
        go_ret
        exact ⟨rfl, HBE.out⟩
      · rcases em with _ | _
        · go_enter Try.func51, Try.ntmps51
          go_wp2_with (first
            | (go_at_call 82; refine Calls.mono (hw.out _ _ _) ?_; rintro e w2 ⟨rfl, rfl⟩)
            | (go_at_call 83; refine Calls.mono (hA.out _ HBE.out) ?_; rintro e w3 ⟨rfl, hb3⟩))
          go_ret
          exact ⟨rfl, HBE.out.trans (hb3.mono HBE.out.size)⟩
        · rcases Nat.eq_zero_or_pos N with hN0 | hN0
          · subst hN0
            go_enter Try.func51, Try.ntmps51
            go_wp2_with (first
              | (go_at_call 82; refine Calls.mono (hw.out _ _ _) ?_; rintro e w2 ⟨rfl, rfl⟩)
              | (go_at_call 83; refine Calls.mono (hA.out _ HBE.out) ?_; rintro e w3 ⟨rfl, hb3⟩))
            go_ret
            exact ⟨rfl, HBE.out.trans (hb3.mono HBE.out.size)⟩
          · have b2 : (0 : Int) < (N : Int) := by omega
            rw [show decide (0 < N) = true from decide_eq_true hN0]
            go_enter Try.func51, Try.ntmps51
            go_wp2_with (first
              | (go_at_call 82; refine Calls.mono (hw.out _ _ _) ?_; rintro e w2 ⟨rfl, rfl⟩))
            go_ret
            exact ⟨rfl, HBE.out⟩
  · have b1 : (9223372036854775807 : Int) < (m : Int) := by have := of_decide_eq_false a1; omega
    rw [a1]
    go_enter Try.func51, Try.ntmps51
    go_wp2_with fail
    go_ret
    exact ⟨rfl, HBE.out⟩
end Go.Proofs.Ytpiflgbcbhnmpaa
