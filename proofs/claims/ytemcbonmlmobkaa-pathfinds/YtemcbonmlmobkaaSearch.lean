/- The search from the end, as the program carries it out: measure. -/
import Derived.Test.YtemcbonmlmobkaaShut
import Derived.Test.YtemcbonmlmobkaaBfs
import Derived.Test.YtemcbonmlmobkaaPlan
namespace Go.Proofs.Ytemcbonmlmobkaa
open Go.RowKit
/-- Numbers of steps, as they lie in a map. -/
def valF (f : Cl → Option Nat) : Cl → Option Value := fun c => (f c).map fun n => .int .i64 (n : Int)
theorem valF_get (f : Cl → Option Nat) (c : Cl) : ((valF f) c).getD (.int .i64 0) = .int .i64 ((f c).getD 0 : Nat) := by
  unfold valF; cases f c <;> rfl
theorem valF_some (f : Cl → Option Nat) (c : Cl) : ((valF f) c).isSome = (f c).isSome := by
  unfold valF; cases f c <;> rfl
theorem putF_val (f : Cl → Option Nat) (c : Cl) (n : Nat) : putF (valF f) c (.int .i64 (n : Int)) = valF (fun x => if x = c then some n else f x) := by
  funext x
  unfold putF valF
  by_cases h : x = c <;> simp [h]
theorem valF_begin (b : Cl) : putF (fun _ => none) b (.int .i64 0) = valF (fun x => if x = b then some 0 else none) := by
  funext x
  unfold putF valF
  by_cases h : x = b <;> simp [h]
/-- A slice of one cell that the call made. -/
theorem OwnC.one {w : World} {g : Nat} {x y : Int} (h : Blk w g [.int .i64 x, .int .i64 y] 27) : OwnC w g (.slice (some ⟨g, 0, none⟩) 1 1) [(x, y)] :=
  ⟨rfl, Or.inr ⟨g, 1, #[.int .i64 x, .int .i64 y], rfl, Nat.le_refl _, h, Nat.le_refl _, by unfold maxLen; omega, rfl, rfl⟩⟩
/-- A map and two cells were laid into blocks of their own. -/
theorem map_cells_box (w : World) (a b : Int) (s t : Value) (x y u z : Int) (W : World) (B : Nat) (hW : W = ((w.alloc (.cells #[Value.int .i64 a, .int .i64 b, s, t] 24)).alloc (.cells #[Value.int .i64 x, .int .i64 y] 27)).alloc (.cells #[Value.int .i64 u, .int .i64 z] 27)) (hB : B = w.heap.size) :
    (∀ w', Below W.heap.size W w' → w'.cell? ⟨B, 0, none⟩ = some (.int .i64 a) ∧ w'.cell? ⟨B, 1, none⟩ = some (.int .i64 b) ∧ w'.cell? ⟨B, 2, none⟩ = some s ∧ w'.cell? ⟨B, 3, none⟩ = some t ∧ w'.cell? ⟨B + 1, 0, none⟩ = some (.int .i64 x) ∧ w'.cell? ⟨B + 1, 1, none⟩ = some (.int .i64 y) ∧ w'.cell? ⟨B + 1 + 1, 0, none⟩ = some (.int .i64 u) ∧ w'.cell? ⟨B + 1 + 1, 1, none⟩ = some (.int .i64 z)) ∧ (∀ w', Below W.heap.size W w' → Below w.heap.size w w') ∧ W.heap.size = B + 3 := by
  have hsz : W.heap.size = B + 3 := by rw [hW, hB]; simp
  have hbe : Below w.heap.size w W := by rw [hW]; exact (((Below.refl _ _).alloc (Nat.le_refl _) _).alloc (by simp) _).alloc (by simp; omega) _
  have b1 : Blk W B [Value.int .i64 a, .int .i64 b, s, t] 24 := by rw [hW, hB]; exact ((Blk.new _ _ _).alloc _).alloc _
  have b2 : Blk W (B + 1) [Value.int .i64 x, .int .i64 y] 27 := by rw [hW]; exact (Blk.new' _ _ _ _ (by simp [hB])).alloc _
  have b3 : Blk W (B + 2) [Value.int .i64 u, .int .i64 z] 27 := by rw [hW]; exact Blk.new' _ _ _ _ (by simp [hB])
  refine ⟨fun w' h => ?_, fun w' h => hbe.trans (h.mono (by omega)), hsz⟩
  have c1 := b1.below h (by omega)
  have c2 := b2.below h (by omega)
  have c3 := b3.below h (by omega)
  exact ⟨c1.cell 0, c1.cell 1, c1.cell 2, c1.cell 3, c2.cell 0, c2.cell 1, c3.cell 0, c3.cell 1⟩
theorem CellsAt.at {w : World} {p : Option Addr} {n cap : Nat} {xs : List Cl} (h : CellsAt w (.slice p n cap) xs) {i : Nat} (hi : i < xs.length) : ∃ sb so, p = some ⟨sb, so, none⟩ ∧ w.cell? ⟨sb, so + i * 2, none⟩ = some (.int .i64 (xs.getD i (0, 0)).1) ∧ w.cell? ⟨sb, so + i * 2 + 1, none⟩ = some (.int .i64 (xs.getD i (0, 0)).2) := by
  obtain ⟨q, c, e, h⟩ := h
  simp only [Value.slice.injEq] at e
  obtain ⟨rfl, _, _⟩ := e
  obtain ⟨sb, so, e, h⟩ := h (by intro h0; rw [h0] at hi; simp at hi)
  exact ⟨sb, so, e, h i hi⟩
theorem visit_ext (m : Mp) (bl : List Cl) (a : Cl) (d : Nat) (s : St) (n : Cl) : (∃ t, (visit m bl a d s n).1 = s.1 ++ t ∧ t.length ≤ 1) ∧ ∀ c, (s.2 c).isSome → (visit m bl a d s n).2 c = s.2 c := by
  unfold visit
  by_cases h1 : (s.2 n).isSome
  · rw [if_pos h1]; exact ⟨⟨[], by simp, by simp⟩, fun _ _ => rfl⟩
  · rw [if_neg h1]
    by_cases h2 : (n == a || pass m bl n) = true
    · rw [if_pos h2]
      exact ⟨⟨[n], rfl, by simp⟩, fun c hc => if_neg (fun he => h1 (by rw [← he]; exact hc))⟩
    · rw [if_neg h2]; exact ⟨⟨[], by simp, by simp⟩, fun _ _ => rfl⟩
theorem visits_ext (m : Mp) (bl : List Cl) (a : Cl) (d : Nat) : ∀ (l : List Cl) (s : St), (∃ t, (l.foldl (visit m bl a d) s).1 = s.1 ++ t ∧ t.length ≤ l.length) ∧ ∀ c, (s.2 c).isSome → (l.foldl (visit m bl a d) s).2 c = s.2 c
  | [], s => ⟨⟨[], by simp, by simp⟩, fun _ _ => rfl⟩
  | n :: l, s => by
    obtain ⟨⟨t, h1, h2⟩, h3⟩ := visit_ext m bl a d s n
    obtain ⟨⟨u, k1, k2⟩, k3⟩ := visits_ext m bl a d l (visit m bl a d s n)
    refine ⟨⟨t ++ u, by rw [List.foldl_cons, k1, h1, List.append_assoc], by simp; omega⟩, fun c hc => ?_⟩
    rw [List.foldl_cons, k3 c (by rw [h3 c hc]; exact hc), h3 c hc]
theorem Inv.at {m : Mp} {bl : List Cl} {a b : Cl} {i : Nat} {s : St} (h : Inv m bl a b i s) {x : Cl} (hx : s.1[i]? = some x) : ∃ d, s.2 x = some d ∧ d ≤ i := by
  obtain ⟨⟨T, hs, _⟩, _, _⟩ := h
  obtain ⟨d, hd⟩ := Option.isSome_iff_exists.1 ((hs.met x).2 (List.mem_of_getElem? hx))
  have := hs.place i x hx
  rw [hd] at this
  exact ⟨d, hd, this⟩
/-- The state behind k neighbours. -/
def midS (m : Mp) (bl : List Cl) (a : Cl) (d : Nat) (s : St) (l : List Cl) (k : Nat) : St := (l.take k).foldl (visit m bl a d) s
theorem midS_next (m : Mp) (bl : List Cl) (a : Cl) (d : Nat) (s : St) {l : List Cl} {k : Nat} (hk : k < l.length) : midS m bl a d s l (k + 1) = visit m bl a d (midS m bl a d s l k) (l.getD k (0, 0)) := by
  unfold midS
  have e : l.take (k + 1) = l.take k ++ [l.getD k (0, 0)] := by
    rw [List.take_add_one, List.getD_eq_getElem?_getD, List.getElem?_eq_getElem hk]; rfl
  rw [e, List.foldl_append]; rfl
theorem midS_facts {m : Mp} {bl : List Cl} {a : Cl} {i d : Nat} {s : St} {x : Cl} (hx : s.1[i]? = some x) (hd : s.2 x = some d) (h4 : s.1.length ≤ 400) (l : List Cl) (hl : l.length ≤ 4) (k : Nat) :
    (midS m bl a d s l k).2 x = some d ∧ (midS m bl a d s l k).1[i]? = some x ∧ i < (midS m bl a d s l k).1.length ∧ (midS m bl a d s l k).1.length ≤ 404 := by
  obtain ⟨⟨t, h1, h2⟩, h3⟩ := visits_ext m bl a d (l.take k) s
  have hlt : i < s.1.length := (List.getElem?_eq_some_iff.1 hx).1
  have hk : (l.take k).length ≤ l.length := by rw [List.length_take]; omega
  unfold midS
  refine ⟨by rw [h3 x (by rw [hd]; rfl), hd], by rw [h1, List.getElem?_append_left hlt, hx], by rw [h1, List.length_append]; omega, by rw [h1, List.length_append]; omega⟩
theorem below_drew {B : Nat} {a w : World} (h : Below B a w) : Below B a w.drew := ⟨h.os, h.tape, h.output, h.size, h.block⟩
theorem run_neqC (a b c d : Int) (w : World) : (binOp .neq 27 (.agg #[.int .i64 a, .int .i64 b]) (.agg #[.int .i64 c, .int .i64 d])).run Try.prog w = .ok (.bool (decide ((a, b) ≠ (c, d)))) w := by
  rw [run_neq_struct]
  have h := run_eqIn 9998 a b c d w
  unfold C at h
  rw [h, Result.andThen_ok]
  congr 2
  by_cases h1 : a = c <;> by_cases h2 : b = d <;> simp [h1, h2]
def sameC (a b c d : Int) : Bool := decide ((a, b) = (c, d))
theorem run_eqlC (a b c d : Int) (w : World) : (binOp .eql 27 (.agg #[.int .i64 a, .int .i64 b]) (.agg #[.int .i64 c, .int .i64 d])).run Try.prog w = .ok (.bool (sameC a b c d)) w := by
  unfold sameC
  rw [run_eql_struct]
  have h := run_eqIn 9998 a b c d w
  unfold C at h
  rw [h, Result.andThen_ok]
  congr 2
  by_cases h1 : a = c <;> by_cases h2 : b = d <;> simp [h1, h2]
attribute [local go_sem ↓] run_neqC run_eqlC
def OutM (w : World) (m : Mp) (bl : List Cl) (a b : Cl) (e : Ending) (w' : World) : Prop := ∃ g f, e = .returned (.map (some g)) ∧ w.heap.size ≤ g ∧ FMap w' g (valF f) ∧ Meas m bl a b f ∧ Below w.heap.size w w'
set_option maxHeartbeats 4000000 in
theorem measure_any (m : Mp) (v u : Value) (bl : List Cl) (ax ay bx by_ : Int) (w : World) (hm : MapAt w v m) (hbl : CellsAt w u bl) (hf : formed m = true) (hN : bl.length ≤ 1000) (ha : inn m (ax, ay) = true) (hb : inn m (bx, by_) = true) :
    Calls Try.prog 21 #[v, u, C ax ay, C bx by_] w fun e w' => OutM w m bl (ax, ay) (bx, by_) e w' := by
  have h34 : Hid (∀ W, Below w.heap.size w W → Calls Try.prog 34 #[v, u] W fun e w' => OutF W (shutF m bl bl.length m.ts.length) e w') := fun W h => closed_any m v u bl W (hm.below h) (hbl.below h) hf hN
  have h35 : Hid (∀ x y W, Below w.heap.size w W → Calls Try.prog 35 #[v, C x y] W fun e w' => OutOwn W (near m x y) e w') := fun x y W h => near_own m v x y W (hm.below h)
  have HIB : Hid (Inv m bl (ax, ay) (bx, by_) 0 ([(bx, by_)], fun x => if x = (bx, by_) then some 0 else none)) := Inv.begin hb
  have HIN : Hid (∀ i s x, Inv m bl (ax, ay) (bx, by_) i s → s.1[i]? = some x → x ≠ (ax, ay) → Inv m bl (ax, ay) (bx, by_) (i + 1) (round m bl (ax, ay) s x)) := fun i s x h hx hn => (h.next hf hx hn).1
  have HID : Hid (∀ i s, Inv m bl (ax, ay) (bx, by_) i s → (∀ x, s.1[i]? = some x → x = (ax, ay)) → Meas m bl (ax, ay) (bx, by_) s.2) := fun i s h he => h.done hf ha hb he
  have HIL : Hid (∀ i s, Inv m bl (ax, ay) (bx, by_) i s → s.1.length ≤ 400 ∧ i ≤ s.1.length) := fun i s h => ⟨h.few hf, h.le⟩
  have HSH : Hid (∀ c, inn m c = true → (shutF m bl bl.length m.ts.length c).isSome = !pass m bl c) := fun c hc => shutF_is hf hc
  have HSG : Hid (∀ c, (shutF m bl bl.length m.ts.length c).getD (.agg #[]) = .agg #[]) := fun c => by unfold shutF; split <;> rfl
  have HNI : Hid (∀ c x, x ∈ nr m c → inn m x = true) := fun c x h => nr_in hf h
  have HNL : Hid (∀ c, (nr m c).length ≤ 4) := fun c => by
    unfold nr near
    rw [if_pos hf]
    exact Nat.le_trans (List.length_filter_le _ _) (by simp [nbs])
  obtain ⟨SF, hSF⟩ : ∃ SF, SF = shutF m bl bl.length m.ts.length := ⟨_, rfl⟩
  rw [← hSF] at h34 HSH HSG
  obtain ⟨p, c, q, d, rfl, -, -⟩ := hm
  obtain ⟨r, rc, rfl, -⟩ := hbl
  unfold OutM
  clear hSF hf hN ha hb
  obtain ⟨S1, hS1⟩ : ∃ z, z = Value.slice p m.ts.length c := ⟨_, rfl⟩
  obtain ⟨S2, hS2⟩ : ∃ z, z = Value.slice q m.os.length d := ⟨_, rfl⟩
  obtain ⟨S3, hS3⟩ : ∃ z, z = Value.slice r bl.length rc := ⟨_, rfl⟩
  obtain ⟨mW, hmW⟩ : ∃ z, z = m.W := ⟨_, rfl⟩
  obtain ⟨mH, hmH⟩ : ∃ z, z = m.H := ⟨_, rfl⟩
  rw [← hS1, ← hS2, ← hmW, ← hmH] at h34 h35 ⊢
  rw [← hS3] at h34 ⊢
  clear hS1 hS2 hS3 hmW hmH
  unfold C at *
  have hmm := @run_makeMap Try.prog
  go_enter Try.func21, Try.ntmps21
  go_upto_region 1 with fail
  obtain ⟨W, hW⟩ : ∃ W, W = ((w.alloc (.cells #[Value.int .i64 mW, .int .i64 mH, S1, S2] 24)).alloc (.cells #[Value.int .i64 ax, .int .i64 ay] 27)).alloc (.cells #[Value.int .i64 bx, .int .i64 by_] 27) := ⟨_, rfl⟩
  obtain ⟨B, hB⟩ : ∃ B, B = w.heap.size := ⟨_, rfl⟩
  rw [← hW, ← hB]
  obtain ⟨hk, hbe, hsz⟩ := map_cells_box w mW mH S1 S2 ax ay bx by_ W B hW hB
  obtain ⟨a0, a1, a2, a3, a4, a5, a6, a7⟩ := hk W (Below.refl _ _)
  have HK := hid hk
  have HBE := hid hbe
  have HSZ := hid (fun (_ : Nat) => hsz)
  have HB := hid (fun (_ : Nat) => hB)
  clear hW hB hk hbe hsz
  go_wp2_with fail
  refine Calls.mono (h34.out _ (HBE.out W (Below.refl _ _))) ?_
  rintro e w1 ⟨b9, rfl, hb9, hF9, hbw1⟩
  obtain ⟨b0, b1, b2, b3, b4, b5, b6, b7⟩ := HK.out w1 hbw1
  have HBW1 := hid hbw1
  have HF9 := hid hF9
  have HBM : Hid (∀ o, Below W.heap.size W (w1.alloc o)) := fun o => HBW1.out.alloc HBW1.out.size _
  obtain ⟨-, -, -, -, -, -, c6, c7⟩ := HK.out _ (HBM.out (.map #[] 0))
  clear hbw1 hF9 a0 a1 a2 a3 a4 a5 a6 a7
  go_upto_region 3 with ((with_reducible refine wpL_ins 3 Try.underlying47 w1.heap.size (fun _ => none) bx by_ (.int .i64 0) ?_ ?_ ?_ (FMap.new w1) ?_); (rfl); (rfl); (rfl); (intro w2 hf2 ht2); (rw [valF_begin] at hf2))
  obtain ⟨D, hD⟩ : ∃ D, D = w1.heap.size := ⟨_, rfl⟩
  rw [← hD] at hf2 ht2 ⊢
  have hw2 : w2.heap.size = D + 1 := by rw [ht2.size, hD]; simp
  have h9D : b9 < D := by rw [hD]; exact HF9.out.lt
  have hWD : W.heap.size ≤ D := by rw [hD]; exact HBW1.out.size
  have HBW2 : Hid (Below W.heap.size W w2) := (HBM.out (.map #[] 0)).trans (ht2.below hWD)
  have HF92 : Hid (FMap w2 b9 SF) := (HF9.out.below ((Below.refl _ _).alloc (Nat.le_refl _) _) (by omega)).below (ht2.below (Nat.le_refl D)) h9D
  have HF2 := hid hf2
  obtain ⟨-, -, -, -, -, -, c6, c7⟩ := HK.out _ HBW2.out
  obtain ⟨V, hV⟩ : ∃ V, V = w2.alloc (.cells #[Value.int .i64 bx, .int .i64 by_] 27) := ⟨_, rfl⟩
  obtain ⟨G, hG⟩ : ∃ G, G = w2.heap.size := ⟨_, rfl⟩
  have hGD : G = D + 1 := by rw [hG, hw2]
  have HDV : Hid (D + 1 < V.heap.size) := hid (by rw [hV]; simp [hw2])
  have HBV2 : Hid (Below G w2 V) := by rw [hV, hG]; exact (Below.refl _ _).alloc (Nat.le_refl _) _
  have HBV : Hid (Below W.heap.size W V) := HBW2.out.trans (HBV2.out.mono (by omega))
  have HOV : Hid (OwnC V G (.slice (some ⟨G, 0, none⟩) 1 1) [(bx, by_)]) := by
    refine OwnC.one ?_
    rw [hV, hG]; exact Blk.new _ _ _
  have HFV : Hid (FMap V D (valF fun x => if x = (bx, by_) then some 0 else none)) := HF2.out.below HBV2.out (by omega)
  have HF9V : Hid (FMap V b9 SF) := HF92.out.below HBV2.out (by omega)
  clear hf2 ht2 hD HBW1 HF9 HBM HBW2 HF92 HF2
  go_upto_region 5 with fail
  rw [← hV]
  subst hGD
  have HB0 := hid (Below.refl D V)
  clear hV hG hw2 HBV2 hmm c6 c7
  go_loopw [12, 11] (fun iv lv wr => ∃ i s, iv = .int .i64 ((i : Nat) : Int) ∧ Hid (Inv m bl (ax, ay) (bx, by_) i s) ∧ Hid (Below D V wr) ∧ Hid (OwnC wr (D + 1) lv s.1) ∧ Hid (FMap wr D (valF s.2))) (fun iv _ _ => 401 - (intOf iv).toNat)
  case atStart => exact ⟨0, _, rfl, HIB, HB0, HOV, HFV⟩
  case round =>
    clear HB0 HOV HFV HIB
    obtain ⟨i, s, rfl, HI, HB1, HO1, HF1⟩ := hrel
    obtain ⟨p, cap, rfl⟩ := HO1.out.form
    obtain ⟨n, hn⟩ : ∃ n, n = s.1.length := ⟨_, rfl⟩
    obtain ⟨hn4, hin⟩ := HIL.out i s HI.out
    have HBW := hid (HBV.out.trans (HB1.out.mono hWD))
    rw [← hn] at hn4 hin ⊢
    by_cases hl : i < n
    · obtain ⟨x, hx⟩ : ∃ x, x = s.1.getD i (0, 0) := ⟨_, rfl⟩
      obtain ⟨x1, x2⟩ := x
      have HX : Hid (s.1[i]? = some (x1, x2)) := by
        rw [hx, List.getD_eq_getElem?_getD, List.getElem?_eq_getElem (by omega)]; rfl
      obtain ⟨sb, so, rfl, d0, d1⟩ : ∃ sb so, p = some ⟨sb, so, none⟩ ∧ wr.cell? ⟨sb, so + i * 2, none⟩ = some (.int .i64 x1) ∧ wr.cell? ⟨sb, so + i * 2 + 1, none⟩ = some (.int .i64 x2) := by
        have h := HO1.out.cells.at (i := i) (by omega)
        rw [← hx] at h
        exact h
      have HN := hid (fun (_ : Nat) => hn)
      have hl' : decide ((i : Int) < (n : Int)) = true := by simpa using hl
      clear hx hn
      by_cases hxa : (x1, x2) = (ax, ay)
      · have hne : decide ((x1, x2) ≠ (ax, ay)) = false := by simpa using hxa
        have HR := hid (HID.out i s HI.out (fun y hy => by rw [HX.out] at hy; cases hy; exact hxa))
        obtain ⟨-, -, -, -, a4, a5, -, -⟩ := HK.out _ HBW.out
        go_upto_region 5 with fail
        go_still (by kernel_rfl)
        go_wp2
        go_ret
        have HE := HBE.out _ (below_drew HBW.out)
        rw [← HB.out 0] at *
        exact ⟨D, s.2, rfl, by have := HSZ.out 0; omega, HF1.out, HR.out, HE⟩
      · have hne : decide ((x1, x2) ≠ (ax, ay)) = true := decide_eq_true hxa
        obtain ⟨-, -, -, -, a4, a5, -, -⟩ := HK.out _ HBW.out
        have HI2 := hid (HIN.out i s (x1, x2) HI.out HX.out hxa)
        go_upto_region 5 with fail
        go_still (by kernel_rfl)
        go_upto_region 7 with fail
        obtain ⟨wq, hwq⟩ : ∃ wq : World, wq = { heap := wr.heap, tape := wr.tape, drawn := wr.drawn + 1, os := wr.os, output := wr.output } := ⟨_, rfl⟩
        rw [← hwq]
        have HBq : Hid (Below D V wq) := by rw [hwq]; exact below_drew HB1.out
        have HOq : Hid (OwnC wq (D + 1) (.slice (some ⟨sb, so, none⟩) n cap) s.1) := by rw [hwq, HN.out 0]; exact HO1.out.stay fun _ _ => rfl
        have HFq : Hid (FMap wq D (valF s.2)) := by rw [hwq]; exact HF1.out.keep rfl
        have HD0 : Hid (wq.cell? ⟨sb, so + i * 2, none⟩ = some (.int .i64 x1) ∧ wq.cell? ⟨sb, so + i * 2 + 1, none⟩ = some (.int .i64 x2)) := by rw [hwq]; exact ⟨d0, d1⟩
        have hsbq : sb < wq.heap.size := lt_of_cell HD0.out.1
        have HBWq := hid (HBV.out.trans (HBq.out.mono hWD))
        clear hwq d0 d1 a4 a5 HBW HB1 HO1 HF1
        have hi0 : (0 : Int) ≤ (i : Int) := by omega
        have hi1 : (i : Int) < (n : Int) := by omega
        have d0 : ∀ z : Nx wq, z.w.cell? ⟨sb, so + i * 2, none⟩ = some (.int .i64 x1) := fun z => by rw [z.h.cell (p := ⟨sb, so + i * 2, none⟩) hsbq]; exact HD0.out.1
        have d1 : ∀ z : Nx wq, z.w.cell? ⟨sb, so + i * 2 + 1, none⟩ = some (.int .i64 x2) := fun z => by rw [z.h.cell (p := ⟨sb, so + i * 2 + 1, none⟩) hsbq]; exact HD0.out.2
        have a0 : ∀ z : Nx wq, z.w.cell? ⟨B, 0, none⟩ = some (.int .i64 mW) := fun z => (HK.out z.w (HBWq.out.trans (z.h.mono HBWq.out.size))).1
        have a1 : ∀ z : Nx wq, z.w.cell? ⟨B, 1, none⟩ = some (.int .i64 mH) := fun z => (HK.out z.w (HBWq.out.trans (z.h.mono HBWq.out.size))).2.1
        have a2 : ∀ z : Nx wq, z.w.cell? ⟨B, 2, none⟩ = some S1 := fun z => (HK.out z.w (HBWq.out.trans (z.h.mono HBWq.out.size))).2.2.1
        have a3 : ∀ z : Nx wq, z.w.cell? ⟨B, 3, none⟩ = some S2 := fun z => (HK.out z.w (HBWq.out.trans (z.h.mono HBWq.out.size))).2.2.2.1
        refine wp_region_calm (S := fun w' => ∃ z : Nx wq, w' = z.w) [(0, false), (1, false), (2, false), (3, false), (4, false), (7, false), (5, true), (6, false)] (by kernel_rfl) (by kernel_rfl) rfl (by kernel_rfl) ⟨⟨wq.drew, below_drew (Below.refl _ _)⟩, rfl⟩ ?_
        repeat (refine plan_take rfl (fun K hK => ?_); go_simp; refine ⟨_, fun _ => rfl, hK _ ?_⟩; clear hK K)
        refine plan_turn rfl (fun K hK => ?_)
        go_simp
        have HBWd := hid (below_drew HBWq.out)
        refine Calls.mono (h35.out x1 x2 _ (HBE.out _ HBWd.out)) ?_
        rintro _ w3 ⟨vn, rfl, hon, hbn⟩
        obtain ⟨l, hle⟩ : ∃ l, l = near m x1 x2 := ⟨_, rfl⟩
        rw [← hle] at hon
        have HLE := hid (fun (_ : Nat) => hle)
        clear hle
        obtain ⟨pn, capn, rfl⟩ := hon.form
        have HBQ3 : Hid (Below wq.heap.size wq w3) := ⟨hbn.os, hbn.tape, hbn.output, hbn.size, hbn.block⟩
        refine hK _ _ ⟨⟨w3, HBQ3.out⟩, rfl⟩ ?_
        clear hK K
        repeat (refine plan_take rfl (fun K hK => ?_); go_simp; refine ⟨_, fun _ => rfl, hK _ ?_⟩; clear hK K)
        refine plan_done ⟨rfl, ?_⟩
        have hle := HLE.out 0
        obtain ⟨dd, hd1, hd2⟩ := HI.out.at HX.out
        have HI3 : Hid (Inv m bl (ax, ay) (bx, by_) (i + 1) (midS m bl (ax, ay) dd s l l.length)) := by
          have := HI2.out
          unfold round at this
          rw [hd1] at this
          unfold midS
          rw [List.take_length, hle]
          exact this
        have HL4 : Hid (l.length ≤ 4) := by rw [hle]; exact HNL.out (x1, x2)
        have hnr : ∀ x ∈ l, inn m x = true := by rw [hle]; exact fun x hx => HNI.out (x1, x2) x hx
        have HLI : Hid (∀ k, k < l.length → inn m (l.getD k (0, 0)) = true) := fun k hk => hnr _ (by
          rw [List.getD_eq_getElem?_getD, List.getElem?_eq_getElem hk, Option.getD_some]
          exact List.getElem_mem hk)
        have HMF := hid (fun k => midS_facts (m := m) (bl := bl) (a := (ax, ay)) HX.out hd1 (HIL.out i s HI.out).1 l HL4.out k)
        have HMN := hid (fun k (hk : k < l.length) => midS_next m bl (ax, ay) dd s hk)
        have HM0 : Hid (midS m bl (ax, ay) dd s l 0 = s) := rfl
        have HB3 : Hid (Below D V w3) := HBq.out.trans (HBQ3.out.mono (by have := HBq.out.size; have := HDV.out; omega))
        have HO3 : Hid (OwnC w3 (D + 1) (.slice (some ⟨sb, so, none⟩) n cap) s.1) := HOq.out.below HBQ3.out
        have HF3 : Hid (FMap w3 D (valF s.2)) := HFq.out.below HBQ3.out HFq.out.lt
        have HOn : Hid (OwnC w3 wq.heap.size (.slice pn l.length capn) l) := hon
        have HAp : Hid (∀ j, Value.ownBlock (.slice pn l.length capn) = some j → Value.ownBlock (.slice (some ⟨sb, so, none⟩) n cap) ≠ some j) := by
          intro j hj he
          have h1 := (HOn.out.block j hj).1
          have h2 := (HOq.out.block j he).2
          omega
        have HDq : Hid (D < wq.heap.size) := by have := HBq.out.size; have := HDV.out; exact hid (by omega)
        have HNa : Hid (∀ k, k < l.length → ∃ b o, pn = some ⟨b, o, none⟩) := fun k hk => by
          obtain ⟨b, o, h, _⟩ := HOn.out.cells.at hk
          exact ⟨b, o, h⟩
        rw [← HM0.out] at HO3 HF3
        clear hon hbn hle hnr HBQ3 HBq HOq HFq HBWq HD0 d0 d1 a0 a1 a2 a3 HBWd HI2 HM0 hsbq
        have hdd1 : (dd : Int) ≤ 400 := by omega
        have hi400 : i ≤ 400 := by omega
        have HSI : Hid (s.1[i]? = some (x1, x2)) := HX
        obtain ⟨X, hX⟩ : ∃ X, X = wq.heap.size := ⟨_, rfl⟩
        rw [← hX] at HOn HDq
        clear hX HX HN hl' hin hi1 hne hl
        go_upto_region 8 with fail
        go_loopw [48, 11] (fun iv lv wr => ∃ k, iv = .int .i64 ((k : Nat) : Int) ∧ k ≤ l.length ∧ Hid (Below D V wr) ∧ Hid (OwnC wr (D + 1) lv (midS m bl (ax, ay) dd s l k).1) ∧ Hid (FMap wr D (valF (midS m bl (ax, ay) dd s l k).2)) ∧ Hid (OwnC wr X (.slice pn l.length capn) l) ∧ Hid (∀ j, Value.ownBlock (.slice pn l.length capn) = some j → Value.ownBlock lv ≠ some j)) (fun iv _ _ => 5 - (intOf iv).toNat)
        case atStart => exact ⟨0, rfl, by omega, HB3, HO3, HF3, HOn, HAp⟩
        case round =>
          clear HB3 HO3 HF3 HOn HAp
          obtain ⟨k, rfl, hkl, HB4, HO4, HF4, HOn, HAp⟩ := hrel
          obtain ⟨f1, f2, f3, f4⟩ := HMF.out k
          by_cases hl : k < l.length
          · have hl' : (k : Int) < (l.length : Int) := by omega
            have hk0 : (0 : Int) ≤ (k : Int) := by omega
            have hl4 := HL4.out
            have hk4 : (k : Int) + 1 ≤ 4 := by omega
            have hwk : wrap64 ((k : Int) + 1) = (k : Int) + 1 := by unfold wrap64; omega
            have HMk := hid (HMN.out k hl)
            have hni := HLI.out k hl
            have hsh := HSH.out _ hni
            obtain ⟨nb, no, rfl, d0, d1⟩ := HOn.out.cells.at hl
            generalize l.getD k (0, 0) = nn at *
            obtain ⟨n1, n2⟩ := nn
            simp only at d0 d1
            generalize midS m bl (ax, ay) dd s l k = sk at *
            obtain ⟨U, hU⟩ : ∃ U, U = wr.alloc (.cells #[Value.int .i64 n1, .int .i64 n2] 27) := ⟨_, rfl⟩
            obtain ⟨g, hg⟩ : ∃ g, g = wr.heap.size := ⟨_, rfl⟩
            have HUB : Hid (Below g wr U) := by rw [hU, hg]; exact (Below.refl _ _).alloc (Nat.le_refl _) _
            have HUG : Hid (Blk U g [.int .i64 n1, .int .i64 n2] 27) := by rw [hU, hg]; exact Blk.new _ _ _
            have hDg : D < g := by rw [hg]; exact HF4.out.lt
            have HBU := hid (HB4.out.trans (HUB.out.mono (by omega)))
            have HOU : Hid (OwnC U (D + 1) u11 sk.1) := HO4.out.below (by rw [← hg]; exact HUB.out)
            have HFU : Hid (FMap U D (valF sk.2)) := HF4.out.below HUB.out hDg
            have HF9U : Hid (FMap U b9 SF) := HF9V.out.below HBU.out h9D
            have HOnU : Hid (OwnC U X (.slice (some ⟨nb, no, none⟩) l.length capn) l) := HOn.out.below (by rw [← hg]; exact HUB.out)
            have HgN : Hid (∀ j, Value.ownBlock (.slice (some ⟨nb, no, none⟩) l.length capn) = some j → j < g) := fun j hj => by rw [hg]; exact (HOn.out.block j hj).2
            go_upto_region 10 with fail
            rw [← hU, ← hg]
            have g0 : U.cell? ⟨g, 0, none⟩ = some (.int .i64 n1) := HUG.out.cell 0
            have g1 : U.cell? ⟨g, 1, none⟩ = some (.int .i64 n2) := HUG.out.cell 1
            clear hU hg HUB HB4 HO4 HF4 HOn d0 d1
            by_cases hmt : (sk.2 (n1, n2)).isSome = true
            · have HE : Hid (midS m bl (ax, ay) dd s l (k + 1) = sk) := by rw [HMk.out]; unfold visit; rw [if_pos hmt]; exact hid rfl
              go_wp2_with (at_lookup; (with_reducible refine wpL_look2 3 Try.underlying47 (.int .i64 0) zero3 D (valF sk.2) n1 n2 ?_ ?_ HFU.out ?_); (rfl); (rfl); (rw [valF_get, valF_some, hmt]))
              rw [← HE.out] at HOU HFU
              go_roundw
              case rel => exact ⟨k + 1, by simp, by omega, HBU, HOU, HFU, HOnU, HAp⟩
              case measure => simp [intOf]; omega
            · have hmf : (sk.2 (n1, n2)).isSome = false := by simpa using hmt
              have hs1 : (SF (n1, n2)).getD (.agg #[]) = .agg #[] := HSG.out _
              obtain ⟨Y, hY⟩ : ∃ Y, Y = U.alloc (.cells #[] 61) := ⟨_, rfl⟩
              have HUY : Hid (Below U.heap.size U Y) := by rw [hY]; exact (Below.refl _ _).alloc (Nat.le_refl _) _
              have HBY := hid (HBU.out.trans (HUY.out.mono (by have := HBU.out.size; have := HDV.out; omega)))
              have HOY : Hid (OwnC Y (D + 1) u11 sk.1) := HOU.out.below HUY.out
              have HFY : Hid (FMap Y D (valF sk.2)) := HFU.out.below HUY.out HFU.out.lt
              have HOnY : Hid (OwnC Y X (.slice (some ⟨nb, no, none⟩) l.length capn) l) := HOnU.out.below HUY.out
              have HGY : Hid (Blk Y g [.int .i64 n1, .int .i64 n2] 27) := HUG.out.below HUY.out HUG.out.lt
              go_upto_region 13 with (at_lookup; first
                | ((with_reducible refine wpL_look2 3 Try.underlying47 (.int .i64 0) zero3 D (valF sk.2) n1 n2 ?_ ?_ HFU.out ?_); (rfl); (rfl); (rw [valF_get, valF_some, hmf]))
                | ((with_reducible refine wpL_look2 61 Try.underlying59 (.agg #[]) zero61 b9 SF n1 n2 ?_ ?_ HF9U.out ?_); (rfl); (rfl); (rw [hs1, hsh])))
              rw [← hY]
              have g2 : Y.cell? ⟨g, 0, none⟩ = some (.int .i64 n1) := HGY.out.cell 0
              have g3 : Y.cell? ⟨g, 1, none⟩ = some (.int .i64 n2) := HGY.out.cell 1
              have HBWY := hid (HBV.out.trans (HBY.out.mono hWD))
              obtain ⟨-, -, -, -, a4, a5, -, -⟩ := HK.out _ HBWY.out
              have HgY : g < Y.heap.size := HGY.out.lt
              clear hY HUY HBU HOU HFU HF9U HOnU HUG g0 g1 hs1 hsh hni
              by_cases hgo : (n1, n2) = (ax, ay) ∨ pass m bl (n1, n2) = true
              · have HE : Hid (midS m bl (ax, ay) dd s l (k + 1) = (sk.1 ++ [(n1, n2)], fun x => if x = (n1, n2) then some (dd + 1) else sk.2 x)) := by
                  rw [HMk.out]; unfold visit
                  rw [if_neg hmt, if_pos (by simpa using hgo)]; exact hid rfl
                have hgo' : sameC n1 n2 ax ay = true ∨ sameC n1 n2 ax ay = false ∧ pass m bl (n1, n2) = true := by
                  unfold sameC
                  rcases hgo with h | h
                  · exact Or.inl (decide_eq_true h)
                  · by_cases h2 : (n1, n2) = (ax, ay)
                    · exact Or.inl (decide_eq_true h2)
                    · exact Or.inr ⟨decide_eq_false h2, h⟩
                obtain ⟨qp, qc, rfl⟩ := HOY.out.form
                have hx12 : sk.1.getD i (0, 0) = (x1, x2) := by rw [List.getD_eq_getElem?_getD, f2]; rfl
                obtain ⟨tb, tq, rfl, t0, t1⟩ := HOY.out.cells.at f3
                rw [hx12] at t0 t1
                simp only at t0 t1
                have hlk := FMap.look1 (w := Y.drew) (HFY.out.keep rfl) 47 3 Try.underlying47 (.int .i64 0) (zero3 _) x1 x2
                rw [valF_get, f1, Option.getD_some] at hlk
                have HPV : Hid (putF (valF sk.2) (n1, n2) (.int .i64 ((dd : Int) + 1)) = valF (fun x => if x = (n1, n2) then some (dd + 1) else sk.2 x)) := putF_val sk.2 (n1, n2) (dd + 1)
                have hXD : D < X := HDq.out
                have hiq : (i : Int) < (sk.1.length : Int) := by omega
                have hdd0 : (0 : Int) ≤ (dd : Int) := Int.natCast_nonneg dd
                have hw1 : -1000 ≤ (dd : Int) + 1 ∧ (dd : Int) + 1 ≤ 1000 := by omega
                have hwd2 : IntKind.i64.wrap ((dd : Int) + 1) = (dd : Int) + 1 := by rw [IntKind.wrap_i64]; omega
                have hwd : wrap64 ((dd : Int) + 1) = (dd : Int) + 1 := wrap_small hw1
                clear hw1
                clear hx12 hgo hmt hmf
                rcases hgo' with e1 | ⟨e1, e2⟩
                · skip
                  go_upto_region 14 with fail
                  go_still_tail 9, (by kernel_rfl)
                  go_upto_region 15 with (at_mapUpdate; (with_reducible refine wpL_upd 3 Try.underlying47 D (valF sk.2) n1 n2 (.int .i64 ((dd : Int) + 1)) ?_ ?_ ?_ ?_ ?_); (rfl); (rfl); (rfl); (exact HFY.out); (intro w4 hf4 ht4); (replace ht4 := Turn.undrew (w := Y) ht4); (rw [HPV.out] at hf4))
                  have HB4 : Hid (Below D V w4) := HBY.out.trans (ht4.below (Nat.le_refl _))
                  have HO4 : Hid (OwnC w4 (D + 1) (.slice (some ⟨tb, tq, none⟩) sk.1.length qc) sk.1) := HOY.out.stay fun j hj => ht4.block j (by have := (HOY.out.block j hj).1; omega)
                  have HOn4 : Hid (OwnC w4 X (.slice (some ⟨nb, no, none⟩) l.length capn) l) := HOnY.out.stay fun j hj => ht4.block j (by have := (HOnY.out.block j hj).1; omega)
                  have HG4 : Hid (Blk w4 g [.int .i64 n1, .int .i64 n2] 27) := by
                    have := HGY.out
                    unfold Blk at this ⊢
                    rw [ht4.block g (by omega)]; exact this
                  have HF4 := hid hf4
                  have g4 : w4.cell? ⟨g, 0, none⟩ = some (.int .i64 n1) := HG4.out.cell 0
                  have g5 : w4.cell? ⟨g, 1, none⟩ = some (.int .i64 n2) := HG4.out.cell 1
                  clear hf4 ht4 hlk hwd hwd2 t0 t1 g2 g3 a4 a5 HBY HOY HOnY HFY HBWY HGY
                  obtain ⟨Z, hZ⟩ : ∃ Z, Z = w4.alloc (.cells #[Value.int .i64 n1, .int .i64 n2] 27) := ⟨_, rfl⟩
                  have HZB : Hid (Below w4.heap.size w4 Z) := by rw [hZ]; exact (Below.refl _ _).alloc (Nat.le_refl _) _
                  have HZG : Hid (Blk Z w4.heap.size [.int .i64 (n1, n2).1, .int .i64 (n1, n2).2] 27) := by rw [hZ]; exact Blk.new _ _ _
                  have HD4 : Hid (D + 1 ≤ w4.heap.size) := HF4.out.lt
                  have HDZ : Hid (D + 1 ≤ Z.heap.size) := Nat.le_trans HD4.out HZB.out.size
                  have HBZ := hid (HB4.out.trans (HZB.out.mono (by have := HD4.out; omega)))
                  have HOZ : Hid (OwnC Z (D + 1) (.slice (some ⟨tb, tq, none⟩) sk.1.length qc) sk.1) := HO4.out.below HZB.out
                  have HFZ := hid (HF4.out.below HZB.out HF4.out.lt)
                  have HOnZ : Hid (OwnC Z X (.slice (some ⟨nb, no, none⟩) l.length capn) l) := HOn4.out.below HZB.out
                  have HSL : Hid (sk.1.length ≤ 1000000) := hid (by omega)
                  rw [hZ] at HZG HDZ HBZ HOZ HFZ HOnZ
                  clear hZ HZB
                  go_upto_region 16 with (first
                    | ((with_reducible refine wpL_appendC (D + 1) (.slice (some ⟨tb, tq, none⟩) sk.1.length qc) w4.heap.size sk.1 (n1, n2) ?_ ?_ HOZ.out HZG.out HSL.out HDZ.out ?_); (rfl); (rfl); (intro v' w5 ho5 hg5); (have HB5 : Hid (Below D V w5) := HBZ.out.trans ((hg5.belowC HOZ.out HDZ.out).mono (Nat.le_succ D))); (have HF5 := hid (HFZ.out.below (hg5.belowC HOZ.out HDZ.out) (Nat.lt_succ_self D))); (have HO5 := hid ho5); (have HOn5 : Hid (OwnC w5 X (.slice (some ⟨nb, no, none⟩) l.length capn) l) := HOnZ.out.stay fun j hj => hg5.block j (HOnZ.out.block j hj).2 (HAp.out j hj)); (have HAp5 : Hid (∀ j, Value.ownBlock (.slice (some ⟨nb, no, none⟩) l.length capn) = some j → Value.ownBlock v' ≠ some j) := (by intro j hj he; rcases hg5.pl with h | h; (rw [h] at he; exact HAp.out j hj he); (have h1 := h j he; have h2 := (HOnZ.out.block j hj).2; omega))); clear ho5 hg5; (simp only [Act.put, List.setIfInBounds_toArray, List.set_cons_zero, List.set_cons_succ])))
                  rw [show sk.1 ++ [(n1, n2)] = (midS m bl (ax, ay) dd s l (k + 1)).1 by rw [HE.out]] at HO5
                  rw [show (fun x => if x = (n1, n2) then some (dd + 1) else sk.2 x) = (midS m bl (ax, ay) dd s l (k + 1)).2 by rw [HE.out]] at HF5
                  go_wp2
                  go_roundw
                  case rel => exact ⟨k + 1, by simp, by omega, HB5, HO5, HF5, HOn5, HAp5⟩
                  case measure => simp [intOf]; omega
                · rw [e2]
                  go_upto_region 14 with fail
                  go_still_tail 9, (by kernel_rfl)
                  go_upto_region 15 with (at_mapUpdate; (with_reducible refine wpL_upd 3 Try.underlying47 D (valF sk.2) n1 n2 (.int .i64 ((dd : Int) + 1)) ?_ ?_ ?_ ?_ ?_); (rfl); (rfl); (rfl); (exact HFY.out); (intro w4 hf4 ht4); (replace ht4 := Turn.undrew (w := Y) ht4); (rw [HPV.out] at hf4))
                  have HB4 : Hid (Below D V w4) := HBY.out.trans (ht4.below (Nat.le_refl _))
                  have HO4 : Hid (OwnC w4 (D + 1) (.slice (some ⟨tb, tq, none⟩) sk.1.length qc) sk.1) := HOY.out.stay fun j hj => ht4.block j (by have := (HOY.out.block j hj).1; omega)
                  have HOn4 : Hid (OwnC w4 X (.slice (some ⟨nb, no, none⟩) l.length capn) l) := HOnY.out.stay fun j hj => ht4.block j (by have := (HOnY.out.block j hj).1; omega)
                  have HG4 : Hid (Blk w4 g [.int .i64 n1, .int .i64 n2] 27) := by
                    have := HGY.out
                    unfold Blk at this ⊢
                    rw [ht4.block g (by omega)]; exact this
                  have HF4 := hid hf4
                  have g4 : w4.cell? ⟨g, 0, none⟩ = some (.int .i64 n1) := HG4.out.cell 0
                  have g5 : w4.cell? ⟨g, 1, none⟩ = some (.int .i64 n2) := HG4.out.cell 1
                  clear hf4 ht4 hlk hwd hwd2 t0 t1 g2 g3 a4 a5 HBY HOY HOnY HFY HBWY HGY
                  obtain ⟨Z, hZ⟩ : ∃ Z, Z = w4.alloc (.cells #[Value.int .i64 n1, .int .i64 n2] 27) := ⟨_, rfl⟩
                  have HZB : Hid (Below w4.heap.size w4 Z) := by rw [hZ]; exact (Below.refl _ _).alloc (Nat.le_refl _) _
                  have HZG : Hid (Blk Z w4.heap.size [.int .i64 (n1, n2).1, .int .i64 (n1, n2).2] 27) := by rw [hZ]; exact Blk.new _ _ _
                  have HD4 : Hid (D + 1 ≤ w4.heap.size) := HF4.out.lt
                  have HDZ : Hid (D + 1 ≤ Z.heap.size) := Nat.le_trans HD4.out HZB.out.size
                  have HBZ := hid (HB4.out.trans (HZB.out.mono (by have := HD4.out; omega)))
                  have HOZ : Hid (OwnC Z (D + 1) (.slice (some ⟨tb, tq, none⟩) sk.1.length qc) sk.1) := HO4.out.below HZB.out
                  have HFZ := hid (HF4.out.below HZB.out HF4.out.lt)
                  have HOnZ : Hid (OwnC Z X (.slice (some ⟨nb, no, none⟩) l.length capn) l) := HOn4.out.below HZB.out
                  have HSL : Hid (sk.1.length ≤ 1000000) := hid (by omega)
                  rw [hZ] at HZG HDZ HBZ HOZ HFZ HOnZ
                  clear hZ HZB
                  go_upto_region 16 with (first
                    | ((with_reducible refine wpL_appendC (D + 1) (.slice (some ⟨tb, tq, none⟩) sk.1.length qc) w4.heap.size sk.1 (n1, n2) ?_ ?_ HOZ.out HZG.out HSL.out HDZ.out ?_); (rfl); (rfl); (intro v' w5 ho5 hg5); (have HB5 : Hid (Below D V w5) := HBZ.out.trans ((hg5.belowC HOZ.out HDZ.out).mono (Nat.le_succ D))); (have HF5 := hid (HFZ.out.below (hg5.belowC HOZ.out HDZ.out) (Nat.lt_succ_self D))); (have HO5 := hid ho5); (have HOn5 : Hid (OwnC w5 X (.slice (some ⟨nb, no, none⟩) l.length capn) l) := HOnZ.out.stay fun j hj => hg5.block j (HOnZ.out.block j hj).2 (HAp.out j hj)); (have HAp5 : Hid (∀ j, Value.ownBlock (.slice (some ⟨nb, no, none⟩) l.length capn) = some j → Value.ownBlock v' ≠ some j) := (by intro j hj he; rcases hg5.pl with h | h; (rw [h] at he; exact HAp.out j hj he); (have h1 := h j he; have h2 := (HOnZ.out.block j hj).2; omega))); clear ho5 hg5; (simp only [Act.put, List.setIfInBounds_toArray, List.set_cons_zero, List.set_cons_succ])))
                  rw [show sk.1 ++ [(n1, n2)] = (midS m bl (ax, ay) dd s l (k + 1)).1 by rw [HE.out]] at HO5
                  rw [show (fun x => if x = (n1, n2) then some (dd + 1) else sk.2 x) = (midS m bl (ax, ay) dd s l (k + 1)).2 by rw [HE.out]] at HF5
                  go_wp2
                  go_roundw
                  case rel => exact ⟨k + 1, by simp, by omega, HB5, HO5, HF5, HOn5, HAp5⟩
                  case measure => simp [intOf]; omega
              · have HE : Hid (midS m bl (ax, ay) dd s l (k + 1) = sk) := by
                  rw [HMk.out]; unfold visit
                  rw [if_neg hmt, if_neg (by simpa using hgo)]; exact hid rfl
                have e1 : sameC n1 n2 ax ay = false := decide_eq_false (fun h => hgo (Or.inl h))
                have e2 : pass m bl (n1, n2) = false := by
                  cases hq : pass m bl (n1, n2) with
                  | false => rfl
                  | true => exact absurd (Or.inr hq) hgo
                rw [e2]
                go_wp2
                rw [← HE.out] at HOY HFY
                go_roundw
                case rel => exact ⟨k + 1, by simp, by omega, HBY, HOY, HFY, HOnY, HAp⟩
                case measure => simp [intOf]; omega
          · obtain rfl : k = l.length := by omega
            have hl' : ((l.length : Int) < (l.length : Int)) = False := by simp
            have hi2 : ((i : Int) + 1) ≤ 9223372036854775807 := by omega
            go_wp2
            go_roundw
            case rel => exact ⟨i + 1, _, rfl, HI3, HB4, HO4, HF4⟩
            case measure => simp [intOf]; omega
    · obtain rfl : i = n := by omega
      have hl' : decide ((i : Int) < (i : Int)) = false := by simp
      have HR := hid (HID.out i s HI.out (fun y hy => by rw [hn, List.getElem?_eq_none (Nat.le_refl _)] at hy; cases hy))
      clear hn
      go_upto_region 5 with fail
      go_quiet (fail)
      go_wp2
      go_ret
      have HE := fun n => HBE.out _ (Below.drewN HBW.out n)
      rw [← HB.out 0] at *
      exact ⟨D, s.2, rfl, by have := HSZ.out 0; omega, HF1.out, HR.out, HE _⟩
end Go.Proofs.Ytemcbonmlmobkaa
