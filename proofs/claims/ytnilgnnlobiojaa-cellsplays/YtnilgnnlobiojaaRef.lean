/- The reference's index: its pairs, and find 35. -/
import Derived.Test.YtnilgnnlobiojaaSt
import Derived.BigQuiet
namespace Go.Proofs.Ytnilgnnlobiojaa
open Go.RowKit
/-- An ID and its cell. -/
abbrev Pr := Int × Cl
def encP (x : Pr) : List Value := [.int .i64 x.1, .int .i64 x.2.1, .int .i64 x.2.2]
theorem layP : Lay encP 3 := ⟨by omega, fun _ => rfl, fun x v hv => by simp [encP] at hv; rcases hv with rfl | rfl | rfl <;> rfl⟩
theorem info68 : (Try.prog.info? 68).map (fun i => (i.zero, i.size, i.bytes)) = some (some (.agg #[.int .i64 0, .int .i64 0, .int .i64 0]), 3, 24) := by kernel_rfl
/-- The reference's index in block b holds the pairs R. -/
def Rx (w : World) (b base : Nat) (R : List Pr) : Prop := ∃ p n cap, n = R.length ∧ Blk w b [.slice p n cap] 29 ∧ OwnR encP 68 3 w base (.slice p n cap) R ∧ base ≤ b
theorem Rx.below {w w' : World} {b base : Nat} {R : List Pr} (h : Rx w b base R) (hb : Below w.heap.size w w') : Rx w' b base R := by
  obtain ⟨p, n, cap, h1, h2, h3, h4⟩ := h
  exact ⟨p, n, cap, h1, h2.below hb h2.lt, h3.below hb, h4⟩
theorem Rx.kept {w w' : World} {b base : Nat} {R : List Pr} (h : Rx w b base R) (hk : Kept w w') : Rx w' b base R := by
  obtain ⟨p, n, cap, h1, h2, h3, h4⟩ := h
  refine ⟨p, n, cap, h1, hk.blk h2 (by decide) (by decide), h3.stay fun k hkv => ?_, h4⟩
  obtain ⟨_, ⟨e, _⟩ | ⟨g, cap', cur, e, hg, hh, _⟩⟩ := h3
  · rw [e] at hkv; simp [Value.ownBlock] at hkv
  · rw [e] at hkv
    simp [Value.ownBlock] at hkv
    subst hkv
    exact hk _ _ _ _ hh (by decide) (by decide)
/-- What the reference's methods leave alone: all but an index of theirs and rows of pairs. -/
def KeptR (w w' : World) : Prop := ∀ (k : Nat) (o : Obj), w.heap[k]? = some o → (∀ cs z, o ≠ Obj.cells cs 29 z) → (∀ cs z, o ≠ Obj.cells cs 68 z) → w'.heap[k]? = w.heap[k]?
theorem KeptR.trans {a b c : World} (h : KeptR a b) (k : KeptR b c) : KeptR a c := fun i o hi h1 h2 => by
  have h3 := h i o hi h1 h2
  rw [← h3]
  exact k i o (h3.trans hi) h1 h2
theorem KeptR.below {w w' : World} (h : Below w.heap.size w w') : KeptR w w' := fun k _ hk _ _ => h.block k (Array.getElem?_eq_some_iff.1 hk).1
theorem KeptR.gro {w w' : World} {base : Nat} {v v' : Value} {xs : List Pr} (hv : OwnR encP 68 3 w base v xs) (hg : Gro w v w' v') : KeptR w w' := fun k o hk _ h2 => hg.block k (Array.getElem?_eq_some_iff.1 hk).1 fun e => by
  obtain ⟨_, ⟨rfl, _⟩ | ⟨g, cap, cur, rfl, hg, hh, _⟩⟩ := hv
  · simp [Value.ownBlock] at e
  · simp [Value.ownBlock] at e
    subst e
    rw [hh] at hk
    cases hk
    exact h2 _ _ rfl
/-- A write into a block of one of the two kinds. -/
theorem KeptR.set {w : World} {b : Nat} {cs : Array Value} {t : TypeId} {z : Nat × Nat} (hb : w.heap[b]? = some (Obj.cells cs t z)) (ht : t = 29 ∨ t = 68) (j : Nat) (v : Value) : KeptR w (w.setCell ⟨b, j, none⟩ v) := fun k o hk h1 h2 => by
  have hne : k ≠ b := by
    rintro rfl
    rw [hb] at hk
    cases hk
    rcases ht with rfl | rfl
    · exact h1 _ _ rfl
    · exact h2 _ _ rfl
  exact Below.heap_setCell _ _ _ _ hne
theorem KeptR.blk {w w' : World} (h : KeptR w w') {b : Nat} {l : List Value} {t : TypeId} (hb : Blk w b l t) (h3 : t ≠ 29) (h5 : t ≠ 68) : Blk w' b l t := by
  unfold Blk at hb ⊢
  rw [h b _ hb (fun cs z e => by cases e; exact h3 rfl) (fun cs z e => by cases e; exact h5 rfl)]; exact hb
theorem KeptR.map {w w' : World} (h : KeptR w w') {b : Nat} {es : Array MapEntry} {ck : Nat} (hb : w.heap[b]? = some (Obj.map es ck)) : w'.heap[b]? = w.heap[b]? :=
  h b _ hb (fun cs z e => by cases e) (fun cs z e => by cases e)
theorem KeptR.own {w w' : World} (h : KeptR w w') {base : Nat} {v : Value} {xs : List Int} (hv : OwnI w base v xs) : OwnI w' base v xs := hv.stay fun k hkv => by
  obtain ⟨_, ⟨e, _⟩ | ⟨g, cap, cur, e, hg, hh, _⟩⟩ := hv
  · rw [e] at hkv; simp [Value.ownBlock] at hkv
  · rw [e] at hkv
    simp [Value.ownBlock] at hkv
    subst hkv
    exact h _ _ hh (fun cs z e => by cases e) (fun cs z e => by cases e)
theorem Im.keptR {w w' : World} {b base ma mw n : Nat} {fa : Cl → Option Value} {A : Cl → List Int} {F : Int → Option Cl} (h : Im w b base ma mw fa A F n) (hk : KeptR w w') : Im w' b base ma mw fa A F n := by
  refine ⟨hk.blk h.blk (by decide) (by decide), ?_, ?_, h.hb, h.ne, h.off, fun c hc => ?_, h.apart⟩
  · obtain ⟨es, ck, l, h1, h2⟩ := h.fm
    exact ⟨es, ck, l, (hk.map h1).trans h1, h2⟩
  · obtain ⟨es, ck, l, h0, h1, h2⟩ := h.im
    exact ⟨es, ck, l, h0, (hk.map h1).trans h1, h2⟩
  · obtain ⟨v, h1, h2⟩ := h.on c hc
    exact ⟨v, h1, hk.own h2⟩
theorem St.keptR {w w' : World} {b base n : Nat} {fa : Cl → Option Value} {F : Int → Option Cl} (h : St w b base fa F n) (hk : KeptR w w') : St w' b base fa F n := by
  obtain ⟨A, h1, h2, h3⟩ := h
  refine ⟨A, ?_, h2, h3⟩
  rcases h1 with ⟨h4, h5⟩ | ⟨ma, mw, h4⟩
  · exact Or.inl ⟨⟨hk.blk h4.1 (by decide) (by decide), h4.2⟩, h5⟩
  · exact Or.inr ⟨ma, mw, h4.keptR hk⟩
/-- The pairs say where each ID is. -/
def Rep (F : Int → Option Cl) (R : List Pr) : Prop := R.Pairwise (fun a b => a.1 < b.1) ∧ ∀ i c, (i, c) ∈ R ↔ F i = some c
theorem Rep.nodup {F : Int → Option Cl} {R : List Pr} (h : Rep F R) : (R.map Prod.fst).Nodup := List.pairwise_map.2 (h.1.imp fun {a b} hab e => by omega)
theorem Rep.len {A : Cl → List Int} {F : Int → Option Cl} {n : Nat} {R : List Pr} (h : Rep F R) (hok : Ok A F n) : R.length = n := by
  obtain ⟨m, rfl, hm, hf⟩ := hok.fin
  have h1 : ∀ j, j ∈ R.map Prod.fst ↔ (F j).isSome = true := fun j => by
    rw [List.mem_map]
    constructor
    · rintro ⟨⟨i, c⟩, hp, rfl⟩
      rw [(h.2 i c).1 hp]; rfl
    · intro hj
      obtain ⟨c, hc⟩ := Option.isSome_iff_exists.1 hj
      exact ⟨(j, c), (h.2 j c).2 hc, rfl⟩
  have h2 := nodup_le _ m h.nodup fun i hi => (hf i).2 ((h1 i).1 hi)
  have h3 := nodup_le m _ hm fun i hi => (h1 i).2 ((hf i).1 hi)
  rw [List.length_map] at h2 h3
  omega
theorem Rep.empty : Rep (fun _ => none) [] := ⟨List.Pairwise.nil, fun i c => by simp⟩
/-- What find answers. -/
def OutFd (R : List Pr) (i : Int) (e : Ending) : Prop := ((∀ x ∈ R, x.1 ≠ i) ∧ e = .returned (.int .i64 (-1))) ∨ ∃ (k : Nat) (h : k < R.length), R[k].1 = i ∧ e = .returned (.int .i64 (k : Int))
set_option maxRecDepth 20000 in
set_option maxHeartbeats 4000000 in
theorem find_any (b base : Nat) (R : List Pr) (i : Int) (w : World) (h : Rx w b base R) (hn : R.length ≤ 4096) :
    Calls Try.prog 35 #[.pointer (some ⟨b, 0, none⟩), .int .i64 i] w fun e w' => OutFd R i e ∧ w' = w := by
  obtain ⟨p, n, cap, hl, hb, ho, _⟩ := h
  have c0 : w.cell? ⟨b, 0, none⟩ = some (.slice p n cap) := hb.cell 0
  have HO := hid (ho.row layP)
  have HL := hid (fun (_ : Nat) => hl)
  have hn6 : (n : Int) ≤ 1000000 := by omega
  obtain ⟨Q, hQ⟩ : ∃ Q, Q = fun e w' => OutFd R i e ∧ w' = w := ⟨_, rfl⟩
  have HQ := hid (fun (_ : Nat) => hQ)
  have hQe : ∀ e w', (OutFd R i e ∧ w' = w) = Q e w' := fun e w' => by rw [hQ]
  simp only [hQe]
  clear hQe
  clear hb ho hl hn hQ
  go_enter Try.func35, Try.ntmps35
  go_wp2_with fail
  go_loopw [5] (fun iv wr => ∃ k : Nat, iv = .int .i64 (k : Int) ∧ k ≤ n ∧ Hid (∀ j (hj : j < R.length), j < k → R[j].1 ≠ i) ∧ wr = w) (fun iv _ => n - (intOf iv).toNat)
  case atStart => exact ⟨0, rfl, Nat.zero_le _, fun j _ hj => absurd hj (Nat.not_lt_zero _), rfl⟩
  case round =>
    obtain ⟨k, rfl, hk, HK, hw⟩ := hrel
    subst hw
    by_cases hlt : k < n
    · have hl' : (k : Int) < (n : Int) := by omega
      obtain ⟨hx, sb, so, hps, hsb, hcell⟩ := RowAt.pos layP HO.out k hlt
      obtain ⟨z, hz⟩ : ∃ z, z = R[k].1 := ⟨_, rfl⟩
      have e0 : wr.cell? ⟨sb, so + k * 3, none⟩ = some (.int .i64 z) := by rw [hz]; exact hcell 0 _ rfl
      have HZ := hid (fun (_ : Nat) => hz)
      subst hps
      clear hcell hz
      by_cases hzi : z = i
      · have hq : (z == i) = true := by simpa using hzi
        go_wp2
        rw [HQ.out 0]
        exact ⟨Or.inr ⟨k, hx, by rw [← HZ.out 0]; exact hzi, rfl⟩, rfl⟩
      · have hq : (z == i) = false := by simpa using hzi
        go_wp2
        go_roundw
        case rel =>
          refine ⟨k + 1, by simp, by omega, fun j hj hjk => ?_, trivial⟩
          by_cases hjk2 : j = k
          · subst hjk2; rw [← HZ.out 0]; exact hzi
          · exact HK.out j hj (by omega)
        case measure => simp [intOf]; omega
    · obtain rfl : k = n := by omega
      have hl' : ((k : Int) < (k : Int)) = False := by simp
      go_wp2
      rw [HQ.out 0]
      refine ⟨Or.inl ⟨fun x hx => ?_, rfl⟩, rfl⟩
      obtain ⟨j, hj, rfl⟩ := List.getElem_of_mem hx
      exact HK.out j hj (by have := HL.out 0; omega)
end Go.Proofs.Ytnilgnnlobiojaa
