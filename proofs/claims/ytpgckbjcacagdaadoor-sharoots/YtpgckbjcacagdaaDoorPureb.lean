/- The hash of whole blocks, and a block that fills up: no program in it. -/
import Derived.Test.YtpgckbjcacagdaaDoorPure
namespace Go.Proofs.YtpgckbjcacagdaaDoor
/-- The eight words behind the first n blocks. -/
def hashTo (L : List Byte) : Nat → St
  | 0 => H0
  | n + 1 => compress KW (hashTo L n) ((L.drop (64 * n)).take 64)
theorem hashTo_append (L R : List Byte) : ∀ n, 64 * n ≤ L.length → hashTo (L ++ R) n = hashTo L n
  | 0, _ => rfl
  | n + 1, h => by
    show compress KW (hashTo (L ++ R) n) (((L ++ R).drop (64 * n)).take 64) = compress KW (hashTo L n) ((L.drop (64 * n)).take 64)
    rw [hashTo_append L R n (by omega), List.drop_append_of_le_length (by omega), List.take_append_of_le_length (by rw [List.length_drop]; omega)]
/-- The words and the block are those of the bytes L. -/
structure Fits (L : List Byte) (ws : St) (bl : List Byte) : Prop where
  len : bl.length = 64
  tail : bl.take (L.length % 64) = L.drop (64 * (L.length / 64))
  words : ws = hashTo L (L.length / 64)
theorem fits_some (L r : List Byte) (ws : St) (bl : List Byte) (h : Fits L ws bl) (t : Nat) (ht : t ≤ r.length) (hf : L.length % 64 + t < 64) :
    Fits (L ++ r.take t) ws (bl.take (L.length % 64) ++ r.take t ++ bl.drop (L.length % 64 + t)) := by
  have hlen : (L ++ r.take t).length = L.length + t := by rw [List.length_append, List.length_take, Nat.min_eq_left ht]
  have hbl := h.len
  have hq : (L.length + t) / 64 = L.length / 64 := by omega
  have hm : (L.length + t) % 64 = L.length % 64 + t := by omega
  have hlt : (bl.take (L.length % 64)).length = L.length % 64 := by rw [List.length_take]; omega
  have hrt : (r.take t).length = t := by rw [List.length_take]; omega
  refine ⟨?_, ?_, ?_⟩
  · simp only [List.length_append, hlt, hrt, List.length_drop]; omega
  · rw [hlen, hq, hm, List.take_append_of_le_length (by rw [List.length_append, hlt, hrt]; omega), List.take_of_length_le (by rw [List.length_append, hlt, hrt]; omega), h.tail, List.drop_append_of_le_length (by omega)]
  · rw [hlen, hq, hashTo_append _ _ _ (by omega)]; exact h.words
theorem fits_all (L r : List Byte) (ws : St) (bl : List Byte) (h : Fits L ws bl) (t : Nat) (ht : t ≤ r.length) (hf : L.length % 64 + t = 64) :
    Fits (L ++ r.take t) (compress KW ws (bl.take (L.length % 64) ++ r.take t ++ bl.drop (L.length % 64 + t))) (bl.take (L.length % 64) ++ r.take t ++ bl.drop (L.length % 64 + t)) := by
  have hlen : (L ++ r.take t).length = L.length + t := by rw [List.length_append, List.length_take, Nat.min_eq_left ht]
  have hbl := h.len
  have hq : (L.length + t) / 64 = L.length / 64 + 1 := by omega
  have hm : (L.length + t) % 64 = 0 := by omega
  have hlt : (bl.take (L.length % 64)).length = L.length % 64 := by rw [List.length_take]; omega
  have hrt : (r.take t).length = t := by rw [List.length_take]; omega
  have hd : bl.drop (L.length % 64 + t) = [] := List.drop_eq_nil_of_le (by omega)
  rw [hd, List.append_nil]
  refine ⟨?_, ?_, ?_⟩
  · simp only [List.length_append, hlt, hrt]; omega
  · rw [hlen, hq, hm, List.take_zero, List.drop_eq_nil_of_le (by rw [hlen]; omega)]
  · rw [hlen, hq]
    show _ = compress KW (hashTo (L ++ r.take t) (L.length / 64)) (((L ++ r.take t).drop (64 * (L.length / 64))).take 64)
    have hT : (bl.take (L.length % 64) ++ r.take t).take 64 = bl.take (L.length % 64) ++ r.take t := List.take_of_length_le (by rw [List.length_append, hlt, hrt]; omega)
    rw [hashTo_append _ _ _ (by omega), List.drop_append_of_le_length (by omega), ← h.tail, hT, ← h.words]
end Go.Proofs.YtpgckbjcacagdaaDoor
