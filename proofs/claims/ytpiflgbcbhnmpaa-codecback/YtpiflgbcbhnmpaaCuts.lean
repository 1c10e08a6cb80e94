/- What the law of cuts needs: lists that lie lower, bytes that are bytes, a beginning of bytes. -/
import Derived.Test.YtpiflgbcbhnmpaaFew
import Derived.Test.YtpiflgbcbhnmpaaForth
import Derived.Test.YtpiflgbcbhnmpaaRrep
import Derived.Test.YtpiflgbcbhnmpaaAwake
namespace Go.Proofs.Ytpiflgbcbhnmpaa
open Go.RowKit
theorem SdsLo.mono {w : World} {b b' : Nat} {v : Value} {ds : List Sd} (h : SdsLo w b v ds) (hb : b ≤ b') : SdsLo w b' v ds := by
  obtain ⟨p, cap, ess, rfl, h1, h2, h3⟩ := h
  refine ⟨p, cap, ess, rfl, h1, fun i d es hd he => ?_, fun hn => ?_⟩
  · obtain ⟨a1, q, c, a2, a3, a4⟩ := h2 i d es hd he
    exact ⟨a1, q, c, a2, a3, fun h0 a ha => Nat.lt_of_lt_of_le (a4 h0 a ha) hb⟩
  · obtain ⟨x, o, e, hx, hc⟩ := h3 hn
    exact ⟨x, o, e, Nat.lt_of_lt_of_le hx hb, hc⟩
theorem BksLo.mono {w : World} {b b' : Nat} {v : Value} {ks : List Bk} (h : BksLo w b v ks) (hb : b ≤ b') : BksLo w b' v ks := by
  obtain ⟨p, cap, ess, rfl, h1, h2, h3⟩ := h
  refine ⟨p, cap, ess, rfl, h1, fun i d es hd he => ?_, fun hn => ?_⟩
  · obtain ⟨a1, q, c, a2, a3⟩ := h2 i d es hd he
    exact ⟨a1, q, c, a2, a3.mono hb⟩
  · obtain ⟨x, o, e, hx, hc⟩ := h3 hn
    exact ⟨x, o, e, Nat.lt_of_lt_of_le hx hb, hc⟩
theorem byt_app {a b : List Nat} (ha : Byt a) (hb : Byt b) : Byt (a ++ b) := fun x hx => by
  rcases List.mem_append.1 hx with h | h
  · exact ha x h
  · exact hb x h
theorem byt_flat {α : Type} {f : α → List Nat} {l : List α} (h : ∀ x ∈ l, Byt (f x)) : Byt (l.flatMap f) := fun x hx => by
  obtain ⟨a, ha, hx⟩ := List.mem_flatMap.1 hx
  exact h a ha x hx
theorem byt_cmd (c : C6) : Byt c.bytes := by
  unfold C6.bytes cmdB
  refine byt_app (sev_byte _) (byt_app ?_ (byt_app ?_ (byt_app ?_ ?_)))
  · split; exact sev_byte _; exact fun x hx => by simp at hx
  · split; exact sev_byte _; exact fun x hx => by simp at hx
  · split; exact sev_byte _; exact fun x hx => by simp at hx
  · split; exact byt_app (sev_byte _) (sev_byte _); exact fun x hx => by simp at hx
theorem byt_sd {d : Sd} (h : SdRaw d) : Byt d.bytes := by
  unfold Sd.bytes Sd.body cmdsB
  exact byt_app (byt_app (sev_byte _) (byt_app (sev_byte _) (byt_app (sev_byte _) (byt_app (sev_byte _) (byt_app (sev_byte _) (byt_flat fun c _ => byt_cmd c)))))) h.bt
theorem byt_bk {k : Bk} (h : BkRaw k) : Byt k.bytes := by
  unfold Bk.bytes sdsB
  exact byt_app (sev_byte _) (byt_app h.p.2 (byt_app h.r.2 (byt_app h.s.2 (byt_app (sev_byte _) (byt_flat fun d hd => byt_sd (h.d d hd))))))
theorem byt_bks {ks : List Bk} (h : ∀ k ∈ ks, BkRaw k) : Byt (bksB ks) := byt_app (sev_byte _) (byt_flat fun k hk => byt_bk (h k hk))
theorem bk_fit {k : Bk} (h : BkRaw k) (hs : Small k) : BkFit k ∧ k.ds.length < 1000000000 :=
  ⟨⟨h.p.1, h.r.1, h.s.1, fun d hd => ⟨(h.d d hd).m, (h.d d hd).tg, by have := hs.2 d hd; omega⟩⟩, by have := hs.1; omega⟩
theorem bytes_take {w : World} {bs : List Nat} {sb so M cap k : Nat} (hB : BytesAt w (.slice (some ⟨sb, so, none⟩) M cap) bs) (hk : k ≤ bs.length) : BytesAt w (.slice (some ⟨sb, so, none⟩) k cap) (bs.take k) := by
  obtain ⟨p', c', he, hc, hz, h⟩ := hB
  simp at he
  obtain ⟨rfl, rfl, rfl⟩ := he
  have hl : (bs.take k).length = k := by rw [List.length_take]; omega
  refine ⟨some ⟨sb, so, none⟩, cap, by rw [hl], by omega, (fun h => by cases h), fun hne => ⟨sb, so, rfl, fun i hi => ?_⟩⟩
  have hb : bs ≠ [] := by rintro rfl; simp at hne
  obtain ⟨sb', so', e, hcell⟩ := h hb
  simp at e
  obtain ⟨rfl, rfl⟩ := e
  rw [hcell i (by omega)]
  congr 2
  simp [show i < k by omega]
def OutT (w : World) (e : Ending) (w' : World) : Prop := e = .returned (.bool true) ∧ Below w.heap.size w w'
theorem pRep_fits (s : S2) : ∀ k ∈ (pRep s).1, BkFit k := by
  have many : ∀ (n : Nat) (s : S2), ∀ k ∈ (pMany pBlk n s).1, BkFit k := fun n => by
    induction n with
    | zero => intro s k hk; simp [pMany] at hk
    | succ n ih =>
      intro s k hk
      simp only [pMany, List.mem_cons] at hk
      rcases hk with rfl | hk
      · exact pBlk_bk s
      · exact ih _ k hk
  exact many _ _
end Go.Proofs.Ytpiflgbcbhnmpaa
