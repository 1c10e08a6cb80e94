/- The law PathMore, walked. -/
import Derived.Test.YtemcbonmlmobkaaMoreWay
import Derived.Test.YtemcbonmlmobkaaFork
import Derived.Test.YtemcbonmlmobkaaIn
import Derived.Test.YtemcbonmlmobkaaOpen4
namespace Go.Proofs.Ytemcbonmlmobkaa
open Go.RowKit
attribute [local go_sem ↓] run_neqC run_eqlC
/-- A list of cells is appended to nothing. -/
theorem wpL_appendAll {ops : Array Oper} {rest : List Oper} {Q : Exit → Act → World → Prop} {a : Act} {w : World} {dd : Option Tmp} {s x : Operand} {tt : TypeId} {pos : String} {af : Array Edge} (p : Option Addr) (N cap : Nat) (cs : List Cl) (hp : p = none → N = 0 ∧ cap = 0)
    (hs : a.eval s = .slice none 0 0) (hx : a.eval x = .slice p N cap) (hc : CellsAt w (.slice p N cap) cs) (hsz : N ≤ 1000000)
    (h : ∀ v' w', OwnC w' w.heap.size v' cs → Below w.heap.size w w' → wpList Try.prog ops Q rest (a.put dd v') w') :
    wpList Try.prog ops Q ({ dst := dd, op := .call { callee := .builtin .append, args := #[s, x], argTypes := #[25, 25] }, type := tt, pos := pos, after := af, guard := .none } :: rest) a w := by
  obtain ⟨i, hi, hz0, hz1, hz2⟩ := info_parts info27
  obtain ⟨q, c, e, hcell⟩ := hc
  simp only [Value.slice.injEq] at e
  obtain ⟨rfl, rfl, rfl⟩ := e
  cases p with
  | none =>
    obtain ⟨h0, rfl⟩ := hp rfl
    have hnil := List.eq_nil_of_length_eq_zero h0
    subst hnil
    refine wpList_append_own_none rfl s x 25 rfl w.heap.size 27 i 2 Try.underlying25 hi (.slice none 0 0) 0 [] hs ⟨rfl, Or.inl ⟨rfl, rfl⟩⟩ hx ?_
    exact h _ _ (OwnC.nil _ _) (Below.refl _ _)
  | some ad =>
    refine wpList_append_own_at w rfl s x 25 rfl w.heap.size 27 i (.agg #[.int .i64 0, .int .i64 0]) 2 16 Try.underlying25 hi hz0 hz1 hz2 rfl (by omega) (.slice none 0 0) 0 [] hs ⟨rfl, Or.inl ⟨rfl, rfl⟩⟩ ad cs.length cap (flat cs) hx (by rw [flat_length]) ?_ (flat_one cs) (by simp only [maxLen]; omega) (by omega) (Nat.le_refl _) ?_
    · intro j u hu
      have hj : j < cs.length * 2 := by rw [← flat_length]; exact (List.getElem?_eq_some_iff.1 hu).1
      obtain ⟨sb, so, e, hcl⟩ := hcell (by intro h0; subst h0; simp at hj)
      cases e
      have hk : j / 2 < cs.length := by omega
      obtain ⟨k1, k2⟩ := hcl (j / 2) hk
      obtain ⟨g1, g2⟩ := flat_get cs (j / 2) hk
      rw [Addr.add_mid]
      rcases Nat.mod_two_eq_zero_or_one j with hm | hm
      · have e1 : j / 2 * 2 = j := by omega
        rw [e1] at k1 g1
        rw [k1, ← g1, hu]
      · have e1 : j / 2 * 2 + 1 = j := by omega
        have e2 : so + j / 2 * 2 + 1 = so + j := by omega
        rw [e2] at k2
        rw [e1] at g2
        rw [k2, ← g2, hu]
    · intro v' w' ho' hg hnil hat
      refine h v' w' ?_ ⟨hg.os, hg.tape, hg.output, hg.size, fun k hk => hg.block k hk (fun he => by cases he)⟩
      unfold OwnC
      simpa using ho'
set_option maxRecDepth 4000 in
set_option maxHeartbeats 8000000 in
theorem more_walk (m : Mp) (v : Value) (p : Option Addr) (N cap : Nat) (bl : List Cl) (x0 y0 x1 y1 mo cx cy : Int) (w : World) (hm : MapAt w v m) (hbl : CellsAt w (.slice p N cap) bl) (hpn : p = none → N = 0 ∧ cap = 0) :
    Calls Try.prog 7 #[v, .slice p N cap, .agg #[.int .i64 x0, .int .i64 y0, .int .i64 x1, .int .i64 y1, .int .i64 mo, .int .i64 cx, .int .i64 cy]] w fun e w' => Out w (.bool true) e w' := by
  have h8 : Hid (∀ W, Calls Try.prog 8 #[] W fun e w' => Out W (.bool true) e w') := awake_any
  have HLN : Hid (N = bl.length) := by
    obtain ⟨q, c, e, _⟩ := hbl
    simp only [Value.slice.injEq] at e
    exact e.2.1
  have HCB := hid (fun W (h : Below w.heap.size w W) => hbl.below h)
  have HPN := hid hpn
  have h10 : Hid (N ≤ 300 → ∀ W, Below w.heap.size w W → Calls Try.prog 10 #[v, .slice p N cap, C x0 y0, C x1 y1, .int .i64 1000] W fun e w' => OutFind W (findV m bl (x0, y0) (x1, y1) 1000) e w') := fun hN W h => find_any m v _ bl x0 y0 x1 y1 1000 W (hm.below h) (hbl.below h) (by rw [← HLN.out]; omega)
  have h10b : Hid (∀ u W, Below w.heap.size w W → N ≤ 300 → CellsAt W u (bl ++ [(cx, cy)]) → Calls Try.prog 10 #[v, u, C x0 y0, C x1 y1, .int .i64 1000] W fun e w' => OutFind W (findV m (bl ++ [(cx, cy)]) (x0, y0) (x1, y1) 1000) e w') := fun u W h hN hc => find_any m v u _ x0 y0 x1 y1 1000 W (hm.below h) hc (by rw [List.length_append, ← HLN.out]; simp; omega)
  have h17 : Hid (∀ (cs : List Cl) (p : Option Addr) (N cap : Nat) W, CellsAt W (.slice p N cap) cs → N ≤ 1000 → Calls Try.prog 17 #[.slice p N cap, C cx cy] W fun e w' => Out W (.bool (cs.contains (cx, cy))) e w') := fun cs p N cap W h hN => in_any cs p N cap cx cy W h hN
  have HF : Hid (∀ l e l2 f, findV m bl (x0, y0) (x1, y1) 1000 = (l, e) → findV m (bl ++ [(cx, cy)]) (x0, y0) (x1, y1) 1000 = (l2, f) → l.length ≤ 1000 ∧ l2.length ≤ 1000 ∧ (e ≠ 0 ∧ f = e ∨ e = 0 ∧ ((l.contains (cx, cy) = false ∨ (cx, cy) = (x1, y1)) ∧ f = 0 ∧ l2.length = l.length ∨ l.contains (cx, cy) = true ∧ (cx, cy) ≠ (x1, y1) ∧ (f = 3 ∨ f = 0 ∧ l.length ≤ l2.length ∧ l2.contains (cx, cy) = false)))) := fun l e l2 f h1 h2 => more_facts h1 h2
  clear hpn
  obtain ⟨q1, c1, q2, c2, rfl, -, -⟩ := hm
  have h9 : Hid (∀ W, Calls Try.prog 9 #[.agg #[.int .i64 m.W, .int .i64 m.H, .slice q1 m.ts.length c1, .slice q2 m.os.length c2], .slice p N cap] W fun e w' => Out W (.bool (decide (m.ts.length ≤ 1000) && decide (m.os.length ≤ 1000) && decide (N ≤ 300))) e w') := fun W => few_any m.W m.H q1 q2 p m.ts.length m.os.length N c1 c2 cap W
  obtain ⟨FW, hFW⟩ : ∃ FW, FW = (decide (m.ts.length ≤ 1000) && decide (m.os.length ≤ 1000) && decide (N ≤ 300)) := ⟨_, rfl⟩
  have HFW : Hid (FW = true → N ≤ 300) := fun h => by
    rw [hFW] at h
    simp only [Bool.and_eq_true, decide_eq_true_eq] at h
    exact h.2
  rw [← hFW] at h9
  obtain ⟨S1, hS1⟩ : ∃ z, z = Value.slice q1 m.ts.length c1 := ⟨_, rfl⟩
  obtain ⟨S2, hS2⟩ : ∃ z, z = Value.slice q2 m.os.length c2 := ⟨_, rfl⟩
  obtain ⟨mW, hmW⟩ : ∃ z, z = m.W := ⟨_, rfl⟩
  obtain ⟨mH, hmH⟩ : ∃ z, z = m.H := ⟨_, rfl⟩
  rw [← hS1, ← hS2, ← hmW, ← hmH] at h10 h10b h9 ⊢
  clear hS1 hS2 hmW hmH hFW hbl
  unfold C Out at *
  go_enter Try.func7, Try.ntmps7
  go_upto_region 1 with fail
  obtain ⟨W, hW⟩ : ∃ W, W = ((w.alloc (.cells #[Value.int .i64 mW, .int .i64 mH, S1, S2] 24)).alloc (.cells #[Value.int .i64 x0, .int .i64 y0, .int .i64 x1, .int .i64 y1, .int .i64 mo, .int .i64 cx, .int .i64 cy] 30)) := ⟨_, rfl⟩
  obtain ⟨B, hB⟩ : ∃ B, B = w.heap.size := ⟨_, rfl⟩
  have HWB : Hid (Below w.heap.size w W) := by rw [hW]; exact ((Below.refl _ _).alloc (Nat.le_refl _) _).alloc (by simp) _
  have HK1 : Hid (Blk W B [.int .i64 mW, .int .i64 mH, S1, S2] 24) := by rw [hW, hB]; exact (Blk.new _ _ _).alloc _
  have HK2 : Hid (Blk W (B + 1) [.int .i64 x0, .int .i64 y0, .int .i64 x1, .int .i64 y1, .int .i64 mo, .int .i64 cx, .int .i64 cy] 30) := by rw [hW]; exact Blk.new' _ _ _ _ (by simp [hB])
  rw [← hW, ← hB]
  clear hW hB
  have b0 : ∀ z : Nx W, z.w.cell? ⟨B + 1, 0, none⟩ = some (.int .i64 x0) := fun z => (HK2.out.below z.h HK2.out.lt).cell 0
  have b1 : ∀ z : Nx W, z.w.cell? ⟨B + 1, 1, none⟩ = some (.int .i64 y0) := fun z => (HK2.out.below z.h HK2.out.lt).cell 1
  have b2 : ∀ z : Nx W, z.w.cell? ⟨B + 1, 2, none⟩ = some (.int .i64 x1) := fun z => (HK2.out.below z.h HK2.out.lt).cell 2
  have b3 : ∀ z : Nx W, z.w.cell? ⟨B + 1, 3, none⟩ = some (.int .i64 y1) := fun z => (HK2.out.below z.h HK2.out.lt).cell 3
  have b5 : ∀ z : Nx W, z.w.cell? ⟨B + 1, 5, none⟩ = some (.int .i64 cx) := fun z => (HK2.out.below z.h HK2.out.lt).cell 5
  have b6 : ∀ z : Nx W, z.w.cell? ⟨B + 1, 6, none⟩ = some (.int .i64 cy) := fun z => (HK2.out.below z.h HK2.out.lt).cell 6
  refine wp_region_fork (S := fun w' => ∃ z : Nx W, w' = z.w) [0, 1, 2, 3] 4 5 [(6, true), (7, true)] (by kernel_rfl) (by kernel_rfl) rfl (by kernel_rfl) ⟨⟨W.drew, below_drew (Below.refl _ _)⟩, rfl⟩ ?_
  repeat (refine fork_take rfl (fun K hK => ?_); go_simp; refine ⟨_, fun _ => rfl, hK _ ?_⟩; clear hK K)
  obtain ⟨G, hG⟩ : ∃ G, G = W.heap.size := ⟨_, rfl⟩
  have HGE := hid (fun (_ : Nat) => hG)
  clear hG b0 b1 b2 b3 b5 b6
  refine fork_both ?A ?B
  case' A =>
    refine plan_turn rfl (fun K hK => ?_)
    go_simp
    obtain ⟨V0, hV0⟩ : ∃ V0, V0 = (W.alloc (.cells #[Value.int .i64 0, .int .i64 0, .int .i64 0, .int .i64 0] 28)).drew := ⟨_, rfl⟩
    rw [← hV0, ← HGE.out 0]
    have HA0 : Hid (Blk V0 G [.int .i64 0, .int .i64 0, .int .i64 0, .int .i64 0] 28) := by rw [hV0, HGE.out 0]; exact (Blk.new _ _ _).drew
    have HB0 : Hid (Below G W V0) := by rw [hV0, HGE.out 0]; exact below_drew ((Below.refl _ _).alloc (Nat.le_refl _) _)
    have HZ0 : Hid (V0.heap.size = G + 1) := by rw [hV0, HGE.out 0]; exact hid (by simp)
    clear hV0
    refine hK _ _ ⟨⟨V0, by rw [← HGE.out 0]; exact HB0.out⟩, rfl⟩ ?_
    clear hK K
    refine plan_turn rfl (fun K hK => ?_)
    go_simp
    obtain ⟨V1, hV1⟩ : ∃ V1, V1 = V0.alloc (.cells #[Value.int .i64 0, .int .i64 0] 27) := ⟨_, rfl⟩
    rw [← hV1, HZ0.out]
    have HA1 : Hid (Blk V1 G [.int .i64 0, .int .i64 0, .int .i64 0, .int .i64 0] 28) := by rw [hV1]; exact HA0.out.alloc _
    have HC1 : Hid (Blk V1 (G + 1) [.int .i64 0, .int .i64 0] 27) := by rw [hV1]; exact Blk.new' _ _ _ _ HZ0.out.symm
    have HB1 : Hid (Below G W V1) := by rw [hV1]; exact HB0.out.alloc (by rw [HZ0.out]; omega) _
    clear hV1 HA0 HB0 HZ0
    refine hK _ _ ⟨⟨V1, by rw [← HGE.out 0]; exact HB1.out⟩, rfl⟩ ?_
    clear hK K
    have hg0 : V1.cell? ⟨G, 0, none⟩ = some (.int .i64 0) := HA1.out.cell 0
    have hg1 : V1.cell? ⟨G, 1, none⟩ = some (.int .i64 0) := HA1.out.cell 1
    have hg2 : V1.cell? ⟨G, 2, none⟩ = some (.int .i64 0) := HA1.out.cell 2
    have hg3 : V1.cell? ⟨G, 3, none⟩ = some (.int .i64 0) := HA1.out.cell 3
    have f0 := HA1.out.frozen 0
    have f1 := HA1.out.frozen 1
    have f2 := HA1.out.frozen 2
    have f3 := HA1.out.frozen 3
    refine plan_turn rfl (fun K hK => ?_)
    go_simp
    have hT := turn_four V1 G (.int .i64 x0) (.int .i64 y0) (.int .i64 x1) (.int .i64 y1)
    obtain ⟨V2, hV2⟩ : ∃ V2, V2 = ((((V1.setCell ⟨G, 0, none⟩ (.int .i64 x0)).setCell ⟨G, 1, none⟩ (.int .i64 y0)).setCell ⟨G, 2, none⟩ (.int .i64 x1)).setCell ⟨G, 3, none⟩ (.int .i64 y1)) := ⟨_, rfl⟩
    have HG2 : Hid (Blk V2 G [.int .i64 x0, .int .i64 y0, .int .i64 x1, .int .i64 y1] 28) := by rw [hV2]; exact (((HA1.out.set 0 _).set 1 _).set 2 _).set 3 _
    rw [← hV2] at hT ⊢
    have HH2 : Hid (Blk V2 (G + 1) [.int .i64 0, .int .i64 0] 27) := by
      have := HC1.out
      unfold Blk at this ⊢
      rw [hT.block (G + 1) (by omega)]; exact this
    have HB2 : Hid (Below G W V2) := HB1.out.trans (hT.below (by omega))
    refine hK _ _ ⟨⟨V2, by rw [← HGE.out 0]; exact HB2.out⟩, rfl⟩ ?_
    clear hK K hT hV2 HA1 HC1 HB1 hg0 hg1 hg2 hg3 f0 f1 f2 f3
    have hg0 : V2.cell? ⟨G + 1, 0, none⟩ = some (.int .i64 0) := HH2.out.cell 0
    have hg1 : V2.cell? ⟨G + 1, 1, none⟩ = some (.int .i64 0) := HH2.out.cell 1
    have f0 := HH2.out.frozen 0
    have f1 := HH2.out.frozen 1
    refine plan_turn rfl (fun K hK => ?_)
    go_simp
    have hT := turn_two V2 (G + 1) (.int .i64 cx) (.int .i64 cy)
    obtain ⟨V, hV⟩ : ∃ V, V = (V2.setCell ⟨G + 1, 0, none⟩ (.int .i64 cx)).setCell ⟨G + 1, 1, none⟩ (.int .i64 cy) := ⟨_, rfl⟩
    have HH : Hid (Blk V (G + 1) [.int .i64 cx, .int .i64 cy] 27) := by rw [hV]; exact (HH2.out.set 0 _).set 1 _
    rw [← hV] at hT ⊢
    have HG : Hid (Blk V G [.int .i64 x0, .int .i64 y0, .int .i64 x1, .int .i64 y1] 28) := by
      have := HG2.out
      unfold Blk at this ⊢
      rw [hT.block G (by omega)]; exact this
    have HBV : Hid (Below G W V) := HB2.out.trans (hT.below (by omega))
    refine hK _ _ ⟨⟨V, by rw [← HGE.out 0]; exact HBV.out⟩, rfl⟩ ?_
    clear hK K hT hV HG2 HH2 HB2 hg0 hg1 f0 f1
    refine plan_done ⟨rfl, ?_⟩
    have HBW : Hid (Below W.heap.size W V) := by rw [← HGE.out 0]; exact HBV
    clear HBV HGE
    generalize hq8 : (G + 1) = g8 at *
    generalize hq7 : G = g7 at *
    clear hq7 hq8
  case' B =>
    refine plan_turn rfl (fun K hK => ?_)
    go_simp
    obtain ⟨V0, hV0⟩ : ∃ V0, V0 = (W.alloc (.cells #[Value.int .i64 0, .int .i64 0] 27)).drew := ⟨_, rfl⟩
    rw [← hV0, ← HGE.out 0]
    have HA0 : Hid (Blk V0 G [.int .i64 0, .int .i64 0] 27) := by rw [hV0, HGE.out 0]; exact (Blk.new _ _ _).drew
    have HB0 : Hid (Below G W V0) := by rw [hV0, HGE.out 0]; exact below_drew ((Below.refl _ _).alloc (Nat.le_refl _) _)
    have HZ0 : Hid (V0.heap.size = G + 1) := by rw [hV0, HGE.out 0]; exact hid (by simp)
    clear hV0
    refine hK _ _ ⟨⟨V0, by rw [← HGE.out 0]; exact HB0.out⟩, rfl⟩ ?_
    clear hK K
    refine plan_turn rfl (fun K hK => ?_)
    go_simp
    obtain ⟨V1, hV1⟩ : ∃ V1, V1 = V0.alloc (.cells #[Value.int .i64 0, .int .i64 0, .int .i64 0, .int .i64 0] 28) := ⟨_, rfl⟩
    rw [← hV1, HZ0.out]
    have HA1 : Hid (Blk V1 G [.int .i64 0, .int .i64 0] 27) := by rw [hV1]; exact HA0.out.alloc _
    have HC1 : Hid (Blk V1 (G + 1) [.int .i64 0, .int .i64 0, .int .i64 0, .int .i64 0] 28) := by rw [hV1]; exact Blk.new' _ _ _ _ HZ0.out.symm
    have HB1 : Hid (Below G W V1) := by rw [hV1]; exact HB0.out.alloc (by rw [HZ0.out]; omega) _
    clear hV1 HA0 HB0 HZ0
    refine hK _ _ ⟨⟨V1, by rw [← HGE.out 0]; exact HB1.out⟩, rfl⟩ ?_
    clear hK K
    have hg0 : V1.cell? ⟨G + 1, 0, none⟩ = some (.int .i64 0) := HC1.out.cell 0
    have hg1 : V1.cell? ⟨G + 1, 1, none⟩ = some (.int .i64 0) := HC1.out.cell 1
    have hg2 : V1.cell? ⟨G + 1, 2, none⟩ = some (.int .i64 0) := HC1.out.cell 2
    have hg3 : V1.cell? ⟨G + 1, 3, none⟩ = some (.int .i64 0) := HC1.out.cell 3
    have f0 := HC1.out.frozen 0
    have f1 := HC1.out.frozen 1
    have f2 := HC1.out.frozen 2
    have f3 := HC1.out.frozen 3
    refine plan_turn rfl (fun K hK => ?_)
    go_simp
    have hT := turn_four V1 (G + 1) (.int .i64 x0) (.int .i64 y0) (.int .i64 x1) (.int .i64 y1)
    obtain ⟨V2, hV2⟩ : ∃ V2, V2 = ((((V1.setCell ⟨G + 1, 0, none⟩ (.int .i64 x0)).setCell ⟨G + 1, 1, none⟩ (.int .i64 y0)).setCell ⟨G + 1, 2, none⟩ (.int .i64 x1)).setCell ⟨G + 1, 3, none⟩ (.int .i64 y1)) := ⟨_, rfl⟩
    have HG2 : Hid (Blk V2 (G + 1) [.int .i64 x0, .int .i64 y0, .int .i64 x1, .int .i64 y1] 28) := by rw [hV2]; exact (((HC1.out.set 0 _).set 1 _).set 2 _).set 3 _
    rw [← hV2] at hT ⊢
    have HH2 : Hid (Blk V2 G [.int .i64 0, .int .i64 0] 27) := by
      have := HA1.out
      unfold Blk at this ⊢
      rw [hT.block G (by omega)]; exact this
    have HB2 : Hid (Below G W V2) := HB1.out.trans (hT.below (by omega))
    refine hK _ _ ⟨⟨V2, by rw [← HGE.out 0]; exact HB2.out⟩, rfl⟩ ?_
    clear hK K hT hV2 HA1 HC1 HB1 hg0 hg1 hg2 hg3 f0 f1 f2 f3
    have hg0 : V2.cell? ⟨G, 0, none⟩ = some (.int .i64 0) := HH2.out.cell 0
    have hg1 : V2.cell? ⟨G, 1, none⟩ = some (.int .i64 0) := HH2.out.cell 1
    have f0 := HH2.out.frozen 0
    have f1 := HH2.out.frozen 1
    refine plan_turn rfl (fun K hK => ?_)
    go_simp
    have hT := turn_two V2 G (.int .i64 cx) (.int .i64 cy)
    obtain ⟨V, hV⟩ : ∃ V, V = (V2.setCell ⟨G, 0, none⟩ (.int .i64 cx)).setCell ⟨G, 1, none⟩ (.int .i64 cy) := ⟨_, rfl⟩
    have HH : Hid (Blk V G [.int .i64 cx, .int .i64 cy] 27) := by rw [hV]; exact (HH2.out.set 0 _).set 1 _
    rw [← hV] at hT ⊢
    have HG : Hid (Blk V (G + 1) [.int .i64 x0, .int .i64 y0, .int .i64 x1, .int .i64 y1] 28) := by
      have := HG2.out
      unfold Blk at this ⊢
      rw [hT.block (G + 1) (by omega)]; exact this
    have HBV : Hid (Below G W V) := HB2.out.trans (hT.below (by omega))
    refine hK _ _ ⟨⟨V, by rw [← HGE.out 0]; exact HBV.out⟩, rfl⟩ ?_
    clear hK K hT hV HG2 HH2 HB2 hg0 hg1 f0 f1
    refine plan_done ⟨rfl, ?_⟩
    have HBW : Hid (Below W.heap.size W V) := by rw [← HGE.out 0]; exact HBV
    clear HBV HGE
    generalize hq7 : (G + 1) = g7 at *
    generalize hq8 : G = g8 at *
    clear hq7 hq8
  all_goals
    have HT : Hid (∀ w', Below V.heap.size V w' → (w'.cell? ⟨B, 0, none⟩ = some (.int .i64 mW) ∧ w'.cell? ⟨B, 1, none⟩ = some (.int .i64 mH) ∧ w'.cell? ⟨B, 2, none⟩ = some S1 ∧ w'.cell? ⟨B, 3, none⟩ = some S2) ∧ (w'.cell? ⟨g7, 0, none⟩ = some (.int .i64 x0) ∧ w'.cell? ⟨g7, 1, none⟩ = some (.int .i64 y0) ∧ w'.cell? ⟨g7, 2, none⟩ = some (.int .i64 x1) ∧ w'.cell? ⟨g7, 3, none⟩ = some (.int .i64 y1)) ∧ w'.cell? ⟨g8, 0, none⟩ = some (.int .i64 cx) ∧ w'.cell? ⟨g8, 1, none⟩ = some (.int .i64 cy)) := hid fun w' h => by
      have k1 := (HK1.out.below HBW.out HK1.out.lt).below h (HK1.out.below HBW.out HK1.out.lt).lt
      have k2 := HG.out.below h HG.out.lt
      have k3 := HH.out.below h HH.out.lt
      exact ⟨⟨k1.cell 0, k1.cell 1, k1.cell 2, k1.cell 3⟩, ⟨k2.cell 0, k2.cell 1, k2.cell 2, k2.cell 3⟩, k3.cell 0, k3.cell 1⟩
    have HWT : Hid (∀ w', Below V.heap.size V w' → Below w.heap.size w w') := hid fun w' h => by
      have h1 := HWB.out.trans (HBW.out.mono HWB.out.size)
      exact h1.trans (h.mono h1.size)
    have HB0 := hid (Below.refl V.heap.size V)
    clear HK1 HK2 HWB HBW HG HH
    go_wp2_with fail
    refine Calls.mono (h8.out V) ?_
    rintro e w1 ⟨rfl, hb1⟩
    have HB1 : Hid (Below V.heap.size V w1) := hid hb1
    clear hb1 HB0
    obtain ⟨⟨a0, a1, a2, a3⟩, -, -, -⟩ := HT.out _ HB1.out
    go_wp2_with fail
    refine Calls.mono (h9.out w1) ?_
    rintro e w2 ⟨rfl, hb2⟩
    have HB2 : Hid (Below V.heap.size V w2) := hid (HB1.out.trans (hb2.mono HB1.out.size))
    clear hb2 HB1 a0 a1 a2 a3
    rcases FW with _ | _
    · go_wp2_with fail
      refine Calls.mono (h8.out w2) ?_
      rintro e w3 ⟨rfl, hb3⟩
      have HE := hid (HWT.out _ (HB2.out.trans (hb3.mono HB2.out.size)))
      clear hb3
      go_wp2
      go_ret
      exact ⟨rfl, HE.out⟩
    · have hN := HFW.out rfl
      have H10 := hid (h10.out hN)
      have H10b := hid (fun u W h => h10b.out u W h hN)
      obtain ⟨R, hR⟩ : ∃ R, R = findV m bl (x0, y0) (x1, y1) 1000 := ⟨_, rfl⟩
      obtain ⟨R2, hR2⟩ : ∃ R, R = findV m (bl ++ [(cx, cy)]) (x0, y0) (x1, y1) 1000 := ⟨_, rfl⟩
      rw [← hR] at H10
      rw [← hR2] at H10b
      obtain ⟨l, e⟩ := R
      obtain ⟨l2, f⟩ := R2
      obtain ⟨hl1, hl2, hfacts⟩ := HF.out l e l2 f hR.symm hR2.symm
      have HNN := hid hN
      clear hR hR2 HF h8 h9 h10 h10b HFW hN
      obtain ⟨⟨a0, a1, a2, a3⟩, ⟨c0, c1, c2, c3⟩, e0, e1⟩ := HT.out _ HB2.out
      go_wp2_with fail
      refine Calls.mono (H10.out w2 (HWT.out _ HB2.out)) ?_
      rintro e' w3 ⟨s, rfl, ho, hb3⟩
      obtain ⟨p3, k3, rfl⟩ := ho.form
      have HO3 := hid ho
      have HB3 : Hid (Below V.heap.size V w3) := hid (HB2.out.trans (hb3.mono HB2.out.size))
      have HC3 := hid (HCB.out _ (HWT.out _ HB3.out))
      have HN6 : Hid (N ≤ 1000000) := hid (by have := HNN.out; omega)
      clear ho hb3 a0 a1 a2 a3 c0 c1 c2 c3 e0 e1 H10
      go_upto_region 7 with (first
        | ((with_reducible refine wpL_appendAll p N cap bl HPN.out ?_ ?_ HC3.out HN6.out ?_); (rfl); (rfl); (intro v4 w4 ho4 hb4); (have HO4 := hid ho4); (have HB4 : Hid (Below w3.heap.size w3 w4) := hid hb4); clear ho4 hb4))
      have HB4V : Hid (Below V.heap.size V w4) := hid (HB3.out.trans (HB4.out.mono HB3.out.size))
      have HO34 := hid (HO3.out.below HB4.out)
      obtain ⟨p4, k4, rfl⟩ := HO4.out.form
      obtain ⟨-, -, e0, e1⟩ := HT.out _ HB4V.out
      obtain ⟨Z, hZ⟩ : ∃ Z, Z = w4.alloc (.cells #[Value.int .i64 cx, .int .i64 cy] 27) := ⟨_, rfl⟩
      have HZB : Hid (Below w4.heap.size w4 Z) := by rw [hZ]; exact (Below.refl _ _).alloc (Nat.le_refl _) _
      have HZG : Hid (Blk Z w4.heap.size [.int .i64 (cx, cy).1, .int .i64 (cx, cy).2] 27) := by rw [hZ]; exact Blk.new _ _ _
      have HOZ : Hid (OwnC Z w3.heap.size (.slice p4 bl.length k4) bl) := hid (HO4.out.below HZB.out)
      have HO3Z := hid (HO34.out.below HZB.out)
      have HDZ : Hid (w3.heap.size ≤ Z.heap.size) := hid (Nat.le_trans HB4.out.size HZB.out.size)
      have HSL : Hid (bl.length ≤ 1000000) := hid (by rw [← HLN.out]; exact HN6.out)
      have HBZ3 : Hid (Below w3.heap.size w3 Z) := hid (HB4.out.trans (HZB.out.mono HB4.out.size))
      have HA3 : Hid (∀ j, Value.ownBlock (.slice p3 l.length k3) = some j → j < w3.heap.size) := hid fun j hj => (HO3.out.block j hj).2
      rw [hZ] at HZG HOZ HO3Z HDZ HBZ3
      clear hZ HZB HO3 HO4 HO34
      go_upto_region 8 with (first
        | ((with_reducible refine wpL_appendC w3.heap.size (.slice p4 bl.length k4) w4.heap.size bl (cx, cy) ?_ ?_ HOZ.out HZG.out HSL.out HDZ.out ?_); (rfl); (rfl); (intro v5 w5 ho5 hg5); (have HB5 : Hid (Below w3.heap.size w3 w5) := hid (HBZ3.out.trans (hg5.belowC HOZ.out HDZ.out))); (have HO5 := hid ho5); (have HO35 := hid (HO3Z.out.stay fun j hj => (hg5.belowC HOZ.out HDZ.out).block j (HA3.out j hj))); clear ho5 hg5; (simp only [Act.put, List.setIfInBounds_toArray, List.set_cons_zero, List.set_cons_succ])))
      have HB5V : Hid (Below V.heap.size V w5) := hid (HB3.out.trans (HB5.out.mono HB3.out.size))
      obtain ⟨⟨a0, a1, a2, a3⟩, ⟨c0, c1, c2, c3⟩, -, -⟩ := HT.out _ HB5V.out
      clear e0 e1 HOZ HZG HDZ HBZ3 HO3Z HB4 HB4V
      go_wp2_with fail
      refine Calls.mono (H10b.out _ w5 (HWT.out _ HB5V.out) HO5.out.cells) ?_
      rintro e' w6 ⟨s2, rfl, ho6, hb6⟩
      obtain ⟨p6, k6, rfl⟩ := ho6.form
      have HO6 := hid ho6
      have HO36 := hid (HO35.out.below hb6)
      have HB6V : Hid (Below V.heap.size V w6) := hid (HB5V.out.trans (hb6.mono HB5V.out.size))
      clear ho6 hb6 HO35 HO5 HB5 HB5V HB3 a0 a1 a2 a3 c0 c1 c2 c3 H10b
      have HE := hid (HWT.out _ HB6V.out)
      rcases hfacts with ⟨hne, rfl⟩ | ⟨rfl, hcase⟩
      · have hne' : (f != 0) = true := by simpa using hne
        clear hne
        go_wp2
        go_ret
        exact ⟨rfl, HE.out⟩
      · obtain ⟨-, ⟨-, -, c2, c3⟩, e0, e1⟩ := HT.out _ HB6V.out
        have HC36 := hid HO36.out.cells
        have HC6 := hid HO6.out.cells
        clear HO36 HO6
        go_wp2_with fail
        refine Calls.mono (h17.out l p3 l.length k3 w6 HC36.out hl1) ?_
        rintro e' w7 ⟨rfl, hb7⟩
        have HB7V : Hid (Below V.heap.size V w7) := hid (HB6V.out.trans (hb7.mono HB6V.out.size))
        have HC7 := hid (HC6.out.below hb7)
        have HE7 := hid (HWT.out _ HB7V.out)
        obtain ⟨-, ⟨-, -, q2', q3'⟩, d0, d1⟩ := HT.out _ HB7V.out
        clear hb7 HB6V HC6 HE c2 c3 e0 e1
        rcases hcase with ⟨hcb, rfl, hll⟩ | ⟨hct, hcn, hf3⟩
        · rw [hll]
          clear HC7 hl2
          cases hlc : l.contains (cx, cy) with
          | false =>
            go_wp2
            go_ret
            exact ⟨rfl, HE7.out⟩
          | true =>
            have hsm : sameC cx cy x1 y1 = true := decide_eq_true (by
              rcases hcb with h | h
              · rw [hlc] at h; cases h
              · exact h)
            clear hcb
            go_wp2
            go_ret
            exact ⟨rfl, HE7.out⟩
        · have hsm : sameC cx cy x1 y1 = false := decide_eq_false hcn
          rw [hct]
          clear hct hcn
          rcases hf3 with rfl | ⟨rfl, hle, hl2c⟩
          · go_wp2
            go_ret
            exact ⟨rfl, HE7.out⟩
          · have hle' : (l.length : Int) ≤ (l2.length : Int) := by omega
            have H17 := hid (h17.out l2 p6 l2.length k6 w7 HC7.out hl2)
            rw [hl2c] at H17
            clear hle hl2c
            go_wp2_with fail
            refine Calls.mono H17.out ?_
            rintro e' w8 ⟨rfl, hb8⟩
            have HE8 := hid (HWT.out _ (HB7V.out.trans (hb8.mono HB7V.out.size)))
            clear hb8
            go_wp2
            go_ret
            exact ⟨rfl, HE8.out⟩
end Go.Proofs.Ytemcbonmlmobkaa
