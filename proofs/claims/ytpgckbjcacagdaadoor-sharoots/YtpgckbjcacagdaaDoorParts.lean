/- Parts: what the law's few answers, and what the reference's Join answers. -/
import Derived.Test.YtpgckbjcacagdaaDoorAll
import Derived.Test.YtpgckbjcacagdaaDoorApp
namespace Go.Proofs.YtpgckbjcacagdaaDoor
open Go.RowKit
/-- v is a slice of slices of bytes. -/
def PartsB (w : World) (v : Value) (parts : List (List Byte)) : Prop :=
  ∃ p cap, ∃ vs : List Value, v = .slice p parts.length cap ∧ (∀ i, i < parts.length → BytesAt w (vs.getD i undef) (parts.getD i [])) ∧
    (parts ≠ [] → ∃ pb po, p = some ⟨pb, po, none⟩ ∧ ∀ i, i < parts.length → w.cell? ⟨pb, po + i, none⟩ = some (vs.getD i undef))
theorem PartsB.below {w w' : World} {v : Value} {parts : List (List Byte)} (h : PartsB w v parts) (hb : Below w.heap.size w w') : PartsB w' v parts := by
  obtain ⟨p, cap, vs, rfl, h1, h2⟩ := h
  refine ⟨p, cap, vs, rfl, fun i hi => (h1 i hi).below hb, fun hn => ?_⟩
  obtain ⟨pb, po, hp, hc⟩ := h2 hn
  exact ⟨pb, po, hp, fun i hi => by rw [hb.cell (p := ⟨pb, po + i, none⟩) (lt_of_cell (hc i hi))]; exact hc i hi⟩
theorem PartsB.at {w : World} {v : Value} {parts : List (List Byte)} (h : PartsB w v parts) {hb : Nat} (hh : w.heap.size ≤ hb) : PartsAt w hb v parts := by
  obtain ⟨p, cap, vs, rfl, h1, h2⟩ := h
  refine ⟨p, cap, vs, rfl, fun i hi => (h1 i hi).sliceB hh, fun hn => ?_⟩
  obtain ⟨pb, po, hp, hc⟩ := h2 hn
  refine ⟨pb, po, hp, ?_, hc⟩
  have : pb < w.heap.size := lt_of_cell (hc 0 (List.length_pos_iff.2 hn))
  omega
/-- What few answers. -/
def FewOk (parts : List (List Byte)) (e : Ending) : Prop := ∃ b : Bool, e = .returned (.bool b) ∧ (b = true → parts.length + parts.flatten.length ≤ 20000)
/-- What Join answers. -/
def JoinOk (parts : List (List Byte)) (e : Ending) (w : World) : Prop := ∃ p N cap, N = parts.flatten.length ∧ e = .returned (.slice p N cap) ∧ BytesAt w (.slice p N cap) parts.flatten
/-- What few adds up. -/
def fewSum (parts : List (List Byte)) : Nat → Nat
  | 0 => 0
  | k + 1 => fewSum parts k + (1 + min (parts.getD k []).length 20001)
theorem fewSum_le (parts : List (List Byte)) : ∀ k, k ≤ parts.length → fewSum parts k ≤ 20000 → k + (parts.take k).flatten.length ≤ fewSum parts k
  | 0, _, _ => by simp
  | k + 1, hk, h => by
    have h1 : fewSum parts (k + 1) = fewSum parts k + (1 + min (parts.getD k []).length 20001) := rfl
    have := fewSum_le parts k (by omega) (by omega)
    rw [flat_take parts k (by omega), List.length_append]
    omega
set_option maxHeartbeats 1000000 in
theorem few_any (parts : List (List Byte)) (v : Value) (w : World) (hP : PartsB w v parts) (hn : parts.length ≤ 9223372036854775807) (hl : ∀ i, i < parts.length → (parts.getD i []).length ≤ 9223372036854775807) :
    Calls Tryd.prog 10 #[v] w fun e w' => FewOk parts e ∧ Below w.heap.size w w' := by
  obtain ⟨p, cap, vs, rfl, h1, h2⟩ := hP
  have H1 : Hid (∀ i, i < parts.length → BytesAt w (vs.getD i undef) (parts.getD i [])) := h1
  have H2 : Hid (parts ≠ [] → ∃ pb po, p = some ⟨pb, po, none⟩ ∧ ∀ i, i < parts.length → w.cell? ⟨pb, po + i, none⟩ = some (vs.getD i undef)) := h2
  have HL : Hid (∀ i, i < parts.length → (parts.getD i []).length ≤ 9223372036854775807) := hl
  clear h1 h2 hl
  go_enter Tryd.func10, Tryd.ntmps10
  go_wp2
  go_loopw [3, 4] (fun s i wr => ∃ k n : Nat, s = .int .i64 (n : Int) ∧ i = .int .i64 (k : Int) ∧ k ≤ parts.length ∧ n ≤ 40002 ∧ Hid (n = fewSum parts k) ∧ Below w.heap.size w wr) (fun _ i _ => parts.length - (intOf i).toNat)
  case atStart => exact ⟨0, 0, rfl, rfl, by omega, by omega, rfl, Below.refl _ _⟩
  case round =>
    obtain ⟨k, n, rfl, rfl, hk, hn4, HK, hbe⟩ := hrel
    by_cases hlt : k < parts.length
    · have e0 : (0 : Int) ≤ (k : Int) := by omega
      have e1 : (k : Int) < (parts.length : Int) := by omega
      by_cases hle : n ≤ 20000
      · have e2 : (n : Int) ≤ 20000 := by omega
        obtain ⟨pb, po, hp, hc⟩ := H2.out (by intro h; rw [h] at hlt; simp at hlt)
        subst hp
        have hck : wr.cell? ⟨pb, po + k, none⟩ = some (vs.getD k undef) := by
          rw [hbe.cell (p := ⟨pb, po + k, none⟩) (lt_of_cell (hc k hlt))]; exact hc k hlt
        obtain ⟨pk, ck, hvk, hcap, _, _⟩ := H1.out k hlt
        rw [hvk] at hck
        have hlk := HL.out k hlt
        have HF : Hid (fewSum parts (k + 1) = n + (1 + min (parts.getD k []).length 20001)) := by rw [HK.out]; exact rfl
        generalize (parts.getD k []).length = m at *
        clear hc hvk
        have e3 : (0 : Int) ≤ (m : Int) := by omega
        obtain ⟨q, hq⟩ : ∃ q, q = min m 20001 := ⟨_, rfl⟩
        have hqi : min (m : Int) 20001 = (q : Int) := by omega
        rw [← hq] at HF
        have hq2 : q ≤ 20001 := by omega
        clear hq
        go_wp2
        go_roundw
        case rel => exact ⟨k + 1, n + (1 + q), by go_num, by go_num, by omega, by omega, HF.out.symm, hbe⟩
        case measure => simp [intOf]; omega
      · have e2 : ¬ (n : Int) ≤ 20000 := by omega
        go_wp2
        go_ret
        exact ⟨⟨false, rfl, fun h => by cases h⟩, hbe⟩
    · have hkk : k = parts.length := by omega
      subst hkk
      have e1 : ¬ (parts.length : Int) < (parts.length : Int) := by omega
      have HE : Hid (n ≤ 20000 → parts.length + parts.flatten.length ≤ 20000) := fun h => by
        have := fewSum_le parts parts.length (Nat.le_refl _) (by have := HK.out; omega)
        rw [List.take_of_length_le (Nat.le_refl _)] at this
        have := HK.out; omega
      by_cases hle : n ≤ 20000
      · have e2 : (n : Int) ≤ 20000 := by omega
        go_wp2
        go_ret
        exact ⟨⟨true, rfl, fun _ => HE.out hle⟩, hbe⟩
      · have e2 : ¬ (n : Int) ≤ 20000 := by omega
        go_wp2
        go_ret
        exact ⟨⟨false, rfl, fun h => by cases h⟩, hbe⟩
set_option maxHeartbeats 1000000 in
theorem join_any (parts : List (List Byte)) (v : Value) (w : World) (hP : PartsB w v parts) (hn : parts.length < 4611686018427387904) (hsz : parts.flatten.length ≤ 1099511627776) :
    Calls Tryd.prog 13 #[v] w fun e w' => JoinOk parts e w' ∧ Below w.heap.size w w' := by
  obtain ⟨p, cap, vs, rfl, h1, h2⟩ := hP
  have H1 : Hid (∀ i, i < parts.length → BytesAt w (vs.getD i undef) (parts.getD i [])) := h1
  have H2 : Hid (parts ≠ [] → ∃ pb po, p = some ⟨pb, po, none⟩ ∧ ∀ i, i < parts.length → w.cell? ⟨pb, po + i, none⟩ = some (vs.getD i undef)) := h2
  clear h1 h2
  go_enter Tryd.func13, Tryd.ntmps13
  go_wp2
  go_loopw [3, 4] (fun s i wr => ∃ (k N : Nat) (q : Option Addr) (c : Nat), s = .slice q N c ∧ i = .int .i64 (k : Int) ∧ k ≤ parts.length ∧ Hid (N = (parts.take k).flatten.length) ∧ Hid (OwnB wr w.heap.size (.slice q N c) (parts.take k).flatten) ∧ Below w.heap.size w wr) (fun _ i _ => parts.length - (intOf i).toNat)
  case atStart => exact ⟨0, 0, none, 0, rfl, rfl, by omega, by rw [List.take_zero]; exact rfl, by rw [List.take_zero]; exact OwnB.nil _ _, Below.refl _ _⟩
  case round =>
    obtain ⟨k, N, q, c, rfl, rfl, hk, HN, HO, hbe⟩ := hrel
    by_cases hlt : k < parts.length
    · have e0 : (0 : Int) ≤ (k : Int) := by omega
      have e1 : (k : Int) < (parts.length : Int) := by omega
      obtain ⟨pb, po, hp, hc⟩ := H2.out (by intro h; rw [h] at hlt; simp at hlt)
      subst hp
      have hck : wr.cell? ⟨pb, po + k, none⟩ = some (vs.getD k undef) := by
        rw [hbe.cell (p := ⟨pb, po + k, none⟩) (lt_of_cell (hc k hlt))]; exact hc k hlt
      have hBk : BytesAt wr (vs.getD k undef) (parts.getD k []) := (H1.out k hlt).below hbe
      have hsk : (parts.take k).flatten.length + (parts.getD k []).length ≤ 1099511627776 := by
        have := flat_le parts (k + 1)
        rw [flat_take parts k hlt, List.length_append] at this
        omega
      have HF : Hid ((parts.take (k + 1)).flatten = (parts.take k).flatten ++ parts.getD k []) := flat_take parts k hlt
      have hbs := hbe.size
      have hO := HO.out
      rw [HN.out] at hO ⊢
      generalize vs.getD k undef = vk at *
      generalize parts.getD k [] = bk at *
      obtain ⟨L, hL⟩ : ∃ L, L = (parts.take k).flatten := ⟨_, rfl⟩
      rw [← hL] at hO hsk HF ⊢
      clear hc HN HO hL
      go_wp2_with (first
        | ((with_reducible refine wpL_append w.heap.size (.slice q L.length c) vk L bk ?_ ?_ hO hBk hsk hbs ?_); (rfl); (rfl); (intro pm cm w5 hO6 _ hb6); (simp only [Act.put, List.setIfInBounds_toArray, List.set_cons_zero, List.set_cons_succ])))
      go_roundw
      case rel => exact ⟨k + 1, L.length + bk.length, pm, cm, rfl, by go_num, by omega, by rw [HF.out, List.length_append]; exact rfl, by rw [HF.out]; exact hO6, hbe.trans hb6⟩
      case measure => simp [intOf]; omega
    · have hkk : k = parts.length := by omega
      subst hkk
      have e1 : ¬ (parts.length : Int) < (parts.length : Int) := by omega
      rw [List.take_of_length_le (Nat.le_refl _)] at HN HO
      have hO := HO.out.bytes
      go_wp2
      go_ret
      exact ⟨⟨q, N, c, HN.out, rfl, hO⟩, hbe⟩
end Go.Proofs.YtpgckbjcacagdaaDoor
