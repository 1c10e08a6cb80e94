/- The walk of the law ShaWrites: it answers true. -/
import Derived.Test.YtpgckbjcacagdaaDoorAwake
import Derived.Test.YtpgckbjcacagdaaDoorTag
import Derived.Test.YtpgckbjcacagdaaDoorRefTag
import Derived.Deep.RegionHeld3
import Derived.Test.YtpgckbjcacagdaaDoorEqlD
import Derived.Deep.DeepCutAuto
namespace Go.Proofs.YtpgckbjcacagdaaDoor
open Go.RowKit
attribute [local go_sem] eqGuard_D neqGuard_D
attribute [local go_sem] zv41
attribute [local go_sem ↓] zv26
theorem new_any (w : World) : Calls Tryd.prog 16 #[] w fun e w' => e = .returned (.pointer (some ⟨w.heap.size, 0, none⟩)) ∧ w' = w.alloc (.cells zH.toArray 41) := by
  go_enter Tryd.func16, Tryd.ntmps16
  go_wp2
  go_ret
  exact ⟨rfl, rfl⟩
theorem HashAt.only {w w' : World} {hb g : Nat} {L : List Byte} (h : HashAt w hb L) (ho : Only g w w') (hn : hb ≠ g) : HashAt w' hb L := by
  obtain ⟨ws, bl, h1, h2⟩ := h
  exact ⟨ws, bl, ho.blk h1 hn, h2⟩
theorem HashAt.lt {w : World} {hb : Nat} {L : List Byte} (h : HashAt w hb L) : hb < w.heap.size := by
  obtain ⟨ws, bl, h1, h2⟩ := h
  exact h1.lt
theorem OwnB.only {w w' : World} {base g : Nat} {v : Value} {xs : List Byte} (h : OwnB w base v xs) (ho : Only g w w') (hn : g < base) : OwnB w' base v xs :=
  h.stay fun k hk => ho.block k (h.block k hk).2 (by have := (h.block k hk).1; omega)
theorem BytesAt.sliceOf {w w' : World} {v : Value} {bs : List Byte} (h : BytesAt w v bs) (hb : Below w.heap.size w w') {g : Nat} (hg : w.heap.size ≤ g) : SliceB w' g v bs := by
  obtain ⟨p, cap, rfl, hc, hcell⟩ := h.sliceB hg
  refine ⟨p, cap, rfl, hc, fun hn => ?_⟩
  obtain ⟨sb, so, hp, hne, hcl⟩ := hcell hn
  exact ⟨sb, so, hp, hne, fun i hi => by rw [hb.cell (p := ⟨sb, so + i, none⟩) (lt_of_cell (hcl i hi))]; exact hcl i hi⟩
section
variable {P : Program} {ops : Array Oper} {Q : Exit → Act → World → Prop} {md : Region.Mode} {fuel : Nat} {listed : Array Bool} {a : Act} {w : World} {i : Nat} {rs : List Nat}
variable {dd : Option Tmp} {x : Operand} {tt : TypeId} {pos : String} {af : Array Edge} {g : Option (Nat × Bool)}
theorem take_opG {d : Tmp} {opx : Op} (v : Value) (ho : ops[i]? = some { dst := some d, op := opx, type := tt, pos := pos, after := af, guard := g })
    (hs : Region.noSelect ops = true) (hf : Region.free md ops listed i = true) (hr : (Region.ready md ops listed).contains i = true)
    (hQ : ∀ c a w, Q (.panic c) (a.put (some d) v) w → Q (.panic c) a w) (hw : Region.wanted { dst := some d, op := opx, type := tt, pos := pos, after := af, guard := g } (yielded ops a.tmps) = true)
    (hy : ∀ w, (execOp a.eval { dst := some d, op := opx, type := tt, pos := pos, after := af, guard := g }).run P w = .ok (.value v) w)
    (h : wpAny P md ops Q fuel (listed.setIfInBounds i true) (a.put (some d) v) w) : wpAny P md ops Q (fuel + 1) listed a w :=
  wpAny_take ho hs hf hr hQ (Or.inl ⟨hw, hy⟩) h
theorem ready_loadG (ty : TypeId) (b o : Nat) (cs : List Value) (d : TypeDesc) (ho : ops[i]? = some { dst := dd, op := .load ty x, type := tt, pos := pos, after := af, guard := g })
    (hw : Region.wanted { dst := dd, op := .load ty x, type := tt, pos := pos, after := af, guard := g } (yielded ops a.tmps) = true)
    (hx : a.eval x = .pointer (some ⟨b, o, none⟩)) (hc : w.rangeAt b o cs) (hu : P.underlying ty = some d) (hd : d.isRow = true) (hi : (P.info? ty).map (·.size) = some cs.length)
    (h : wpAny P md ops Q fuel (listed.setIfInBounds i true) (a.put dd (.agg cs.toArray)) w) (hs : AllReady P md ops Q fuel listed a w rs) : AllReady P md ops Q fuel listed a w (i :: rs) :=
  AllReady.cons ho (fun K hK => by
    rw [if_pos hw]
    exact wp_load_mid ty x rfl b o hx cs d hc hu hd hi (hK _ _ h)) hs
theorem ready_callG (f : FuncId) (args : Array Operand) (ats : Array TypeId) (vs : Array Value) (ho : ops[i]? = some { dst := dd, op := .call { callee := .value (.func f), args := args, argTypes := ats }, type := tt, pos := pos, after := af, guard := g })
    (hw : Region.wanted { dst := dd, op := .call { callee := .value (.func f), args := args, argTypes := ats }, type := tt, pos := pos, after := af, guard := g } (yielded ops a.tmps) = true)
    (hcf : (callFunc f vs).run P w = .ok (.enter f vs) w) (hv : args.map a.eval = vs)
    (h : Calls P f vs w fun e w' => ∃ v, e = .returned v ∧ wpAny P md ops Q fuel (listed.setIfInBounds i true) (a.put dd v) w') (hs : AllReady P md ops Q fuel listed a w rs) : AllReady P md ops Q fuel listed a w (i :: rs) :=
  AllReady.cons ho (fun K hK => by
    rw [if_pos hw]
    unfold Oper.wp
    have he : (execOp a.eval { dst := dd, op := .call { callee := .value (.func f), args := args, argTypes := ats }, type := tt, pos := pos, after := af, guard := g }).run P w = .ok (.enter f vs) w := by
      simp [hv, hcf, go_sem]
    rw [he, Oper.upon_enter]
    refine h.mono fun e w' ⟨v, he, hw⟩ => ?_
    subst he
    exact hK _ _ hw) hs
end
set_option maxHeartbeats 4000000 in
theorem shaWrites_walk (parts : List (List Byte)) (v : Value) (w : World) (ht : Tab w) (hP : PartsB w v parts) (hn : parts.length ≤ 9223372036854775807) (hl : ∀ i, i < parts.length → (parts.getD i []).length ≤ 9223372036854775807) :
    Calls Tryd.prog 5 #[v] w fun e w' => e = .returned (.bool true) ∧ Below w.heap.size w w' := by
  have haw : Hid (∀ W, Below w.heap.size w W → Calls Tryd.prog 9 #[] W fun e w' => e = .returned (.bool true) ∧ Below W.heap.size W w') := fun W hW => awake_any W (ht.below hW ht.pos)
  have hpos := ht.pos
  have hfew : Hid (∀ W, Below w.heap.size w W → Calls Tryd.prog 10 #[v] W fun e w' => FewOk parts e ∧ Below W.heap.size W w') := fun W hW => few_any parts v W (hP.below hW) hn hl
  have HT : Hid (Tab w) := ht
  have HP : Hid (PartsB w v parts) := hP
  obtain ⟨p, cap, vs, rfl, h1, h2⟩ := hP
  have H1 : Hid (∀ i, i < parts.length → BytesAt w (vs.getD i undef) (parts.getD i [])) := h1
  have H2 : Hid (parts ≠ [] → ∃ pb po, p = some ⟨pb, po, none⟩ ∧ ∀ i, i < parts.length → w.cell? ⟨pb, po + i, none⟩ = some (vs.getD i undef)) := h2
  clear ht hl h1 h2
  go_enter Tryd.func5, Tryd.ntmps5
  go_wp2_with fail
  refine (haw.out w (Below.refl _ _)).mono ?_
  rintro e w1 ⟨rfl, hb1⟩
  go_wp2_with fail
  refine (hfew.out w1 hb1).mono ?_
  rintro e w2 ⟨⟨b, rfl, hb⟩, hb2⟩
  have hbe2 : Below w.heap.size w w2 := hb1.trans (hb2.mono hb1.size)
  clear hb1 hb2
  cases b
  · clear hb
    go_wp2_with fail
    refine (haw.out w2 hbe2).mono ?_
    rintro e w3 ⟨rfl, hb3⟩
    go_wp2
    go_ret
    exact ⟨rfl, hbe2.trans (hb3.mono hbe2.size)⟩
  have hsz := hb rfl
  clear hb hfew
  have hpl0 : (0 : Int) ≤ (parts.length : Int) := by omega
  by_cases h60 : 60 < parts.length
  · have e60 : (60 : Int) < (parts.length : Int) := by omega
    go_wp2_with fail
    refine (haw.out w2 hbe2).mono ?_
    rintro e w3 ⟨rfl, hb3⟩
    go_wp2
    go_ret
    exact ⟨rfl, hbe2.trans (hb3.mono hbe2.size)⟩
  have e60 : ¬ (60 : Int) < (parts.length : Int) := by omega
  have hjoin : Hid (Calls Tryd.prog 13 #[.slice p parts.length cap] w2 fun e w' => JoinOk parts e w' ∧ Below w2.heap.size w2 w') := join_any parts _ w2 (HP.out.below hbe2) (by omega) (by omega)
  go_wp2_with fail
  refine hjoin.out.mono ?_
  rintro e w3 ⟨⟨q, N, c, hN, rfl, _⟩, hb3⟩
  have hbe3 : Below w.heap.size w w3 := hbe2.trans (hb3.mono hbe2.size)
  have hN0 : (0 : Int) ≤ (N : Int) := by omega
  clear hjoin hN
  by_cases h5k : 5000 < N
  · have e5k : (5000 : Int) < (N : Int) := by omega
    go_wp2_with fail
    refine (haw.out w3 hbe3).mono ?_
    rintro e w4 ⟨rfl, hb4⟩
    go_wp2
    go_ret
    exact ⟨rfl, hbe3.trans (hb4.mono hbe3.size)⟩
  have e5k : ¬ (5000 : Int) < (N : Int) := by omega
  clear haw
  go_wp2_with fail
  refine (new_any w3).mono ?_
  rintro e w4 ⟨rfl, rfl⟩
  have hH1 : HashAt ((w3.alloc (.cells zH.toArray 41)).alloc (.cells zH.toArray 41)) w3.heap.size [] := hashAt_zero ((Blk.new _ _ _).alloc _)
  have hH2 : HashAt ((w3.alloc (.cells zH.toArray 41)).alloc (.cells zH.toArray 41)) (w3.heap.size + 1) [] := hashAt_zero (Blk.new' _ _ _ _ (by simp))
  have hbe4 : Below w.heap.size w ((w3.alloc (.cells zH.toArray 41)).alloc (.cells zH.toArray 41)) := (hbe3.alloc hbe3.size _).alloc (by have := hbe3.size; simp; omega) _
  have hsz4 : ((w3.alloc (.cells zH.toArray 41)).alloc (.cells zH.toArray 41)).heap.size = w3.heap.size + 2 := by simp
  have hge3 := hbe3.size
  go_wp2
  generalize (w3.alloc (.cells zH.toArray 41)).alloc (.cells zH.toArray 41) = W at *
  generalize w3.heap.size = b at *
  clear hbe3 hb3 hbe2
  go_loopw [5, 6] (fun va i wr => ∃ (k Na : Nat) (pa : Option Addr) (ca : Nat), va = .slice pa Na ca ∧ i = .int .i64 (k : Int) ∧ k ≤ parts.length ∧ Hid (Na = (parts.take k).flatten.length) ∧ Hid (OwnB wr (b + 2) (.slice pa Na ca) (parts.take k).flatten) ∧ Hid (HashAt wr b (parts.take k).flatten) ∧ Hid (HashAt wr (b + 1) (parts.take k).flatten) ∧ Below w.heap.size w wr) (fun _ i _ => parts.length - (intOf i).toNat)
  case atStart => exact ⟨0, 0, none, 0, rfl, rfl, by omega, by rw [List.take_zero]; exact rfl, by rw [List.take_zero]; exact OwnB.nil _ _, by rw [List.take_zero]; exact hH1, by rw [List.take_zero]; exact hH2, hbe4⟩
  case round =>
    obtain ⟨k, Na, pa, ca, rfl, rfl, hk, HN, HO, HH1, HH2, hbe⟩ := hrel
    clear hH1 hH2 hbe4 hsz4
    by_cases hlt : k < parts.length
    · have e0 : (0 : Int) ≤ (k : Int) := by omega
      have e1 : (k : Int) < (parts.length : Int) := by omega
      obtain ⟨pb, po, hp, hc⟩ := H2.out (by intro h; rw [h] at hlt; simp at hlt)
      subst hp
      have hck : Hid (∀ w', Below w.heap.size w w' → w'.cell? ⟨pb, po + k, none⟩ = some (vs.getD k undef)) := fun w' hw => by
        rw [hw.cell (p := ⟨pb, po + k, none⟩) (lt_of_cell (hc k hlt))]; exact hc k hlt
      have hBk : Hid (BytesAt w (vs.getD k undef) (parts.getD k [])) := H1.out k hlt
      have HF : Hid ((parts.take (k + 1)).flatten = (parts.take k).flatten ++ parts.getD k []) := flat_take parts k hlt
      have hLs : (parts.take k).flatten.length + (parts.getD k []).length ≤ 20000 := by
        have := flat_le parts (k + 1)
        rw [flat_take parts k hlt, List.length_append] at this
        omega
      clear hc
      generalize vs.getD k undef = vk at *
      generalize parts.getD k [] = bk at *
      obtain ⟨L, hL⟩ : ∃ L, L = (parts.take k).flatten := ⟨_, rfl⟩
      rw [← hL] at HN HO HH1 HH2 HF hLs
      clear hL
      have hbs := hbe.size
      have hlt1 := HH1.out.lt
      have hlt2 := HH2.out.lt
      have hwr1 : Hid (Calls Tryd.prog 17 #[.pointer (some ⟨b, 0, none⟩), vk] wr fun e w' => e = .returned (.tuple #[]) ∧ HashAt w' b (L ++ bk) ∧ Only b wr w') :=
        write_any b L bk vk wr (HT.out.below hbe hpos) (by omega) HH1.out (hBk.out.sliceOf hbe hge3) (by omega)
      have hc0 := hck.out wr hbe
      go_wp2_with fail
      refine hwr1.out.mono ?_
      rintro e wA ⟨rfl, hHA1, hOA⟩
      have hbeA : Below w.heap.size w wA := hbe.trans (hOA.below hge3 hbs)
      have hHA2 := HH2.out.only hOA (by omega)
      have hwr2 : Hid (Calls Tryd.prog 17 #[.pointer (some ⟨b + 1, 0, none⟩), vk] wA fun e w' => e = .returned (.tuple #[]) ∧ HashAt w' (b + 1) (L ++ bk) ∧ Only (b + 1) wA w') :=
        write_any (b + 1) L bk vk wA (HT.out.below hbeA hpos) (by omega) hHA2 (hBk.out.sliceOf hbeA (by omega)) (by omega)
      have hOwA := HO.out.only hOA (by omega)
      have hcA := hck.out wA hbeA
      have hbsA := hbeA.size
      clear hwr1 hc0 HH1 HH2 HO hHA2 hOA
      go_wp2_with fail
      refine hwr2.out.mono ?_
      rintro e wB ⟨rfl, hHB2, hOB⟩
      have hbeB : Below w.heap.size w wB := hbeA.trans (hOB.below (by omega) hbsA)
      have hHB1 := hHA1.only hOB (by omega)
      have hOwB := hOwA.only hOB (by omega)
      have hcB := hck.out wB hbeB
      have hBkB := hBk.out.below hbeB
      have hltB := hHB2.lt
      obtain ⟨N5, hN5⟩ : ∃ N, L.length + bk.length = N := ⟨_, rfl⟩
      have hs5 : N5 ≤ 1099511627776 := by omega
      have hsL : N5 ≤ 20000 := by omega
      clear hwr2 hcA hOwA hHA1 hOB hbeA hbsA
      go_upto_region 12 with (first
        | ((with_reducible refine wpL_appendN (b + 2) (.slice pa Na ca) vk L bk N5 hN5 ?_ ?_ hOwB hBkB hs5 (by omega) ?_); (rfl); (rfl); (intro pc cc wC hOwC _ hbC); (simp only [Act.put, List.setIfInBounds_toArray, List.set_cons_zero, List.set_cons_succ])))
      have hbeC : Below w.heap.size w wC := hbeB.trans (hbC.mono (by omega))
      have hHC1 := hHB1.below hbC (by omega)
      have hHC2 := hHB2.below hbC (by omega)
      have hex : ∃ D : List Byte, D.length = 32 ∧ Hid (∀ X, X = L ++ bk → digest X = D) := ⟨digest (L ++ bk), digest_length _, by rintro X rfl; rfl⟩
      obtain ⟨D, hDl, HD⟩ := hex
      have hBi := hOwC.bytes
      have href : Hid (Calls Tryd.prog 12 #[.slice pc N5 cc] wC fun e w' => e = .returned (.agg (D.map B8).toArray) ∧ Below wC.heap.size wC w') := by
        rw [← hN5, ← List.length_append] at hBi ⊢
        have := refSum_any (L ++ bk) pc cc wC hBi (by rw [List.length_append]; omega)
        rw [HD.out _ rfl] at this; exact this
      have hi26 : (Tryd.prog.info? 26).map (·.size) = some (D.map B8).length := by rw [List.length_map, hDl]; exact size26
      have hone : Hid (∀ v ∈ D.map B8, v.oneCell' = true) := mapB_one _
      have hzl : (zB 32).length = (D.map B8).length := by rw [List.length_map, hDl, zB_length]
      clear hHB1 hHB2 hOwB hcB hBkB hBi hbC hbeB hltB
      go_wp2_with fail
      refine href.out.mono ?_
      rintro e wD ⟨rfl, hbD⟩
      go_upto_region 13 with (first
        | ((with_reducible refine wpL_new 26 (zB 32) (D.map B8) zv26 hzl ?_ ?_ hi26 hone.out ?_); (rfl); (rfl); (simp only [Act.put, List.setIfInBounds_toArray, List.set_cons_zero, List.set_cons_succ])))
      have hbX0 : Below wC.heap.size wC (wD.alloc (.cells (D.map B8).toArray 26)) := hbD.alloc hbD.size _
      have hBX : Blk (wD.alloc (.cells (D.map B8).toArray 26)) wD.heap.size (D.map B8) 26 := Blk.new _ _ _
      clear hbD href hone hzl
      generalize wD.alloc (.cells (D.map B8).toArray 26) = X at *
      generalize wD.heap.size = M at *
      have hbeX : Below w.heap.size w X := hbeC.trans (hbX0.mono hbeC.size)
      have hHX1 : Hid (HashAt X b (L ++ bk)) := hHC1.below hbX0 hHC1.lt
      have hHX2 : Hid (HashAt X (b + 1) (L ++ bk)) := hHC2.below hbX0 hHC2.lt
      have hOX : Hid (OwnB X (b + 2) (.slice pc N5 cc) (L ++ bk)) := hOwC.below hbX0
      have hl5 : (L ++ bk).length < 1152921504606846976 := by rw [List.length_append]; omega
      have c18a : Hid (∀ w', Below X.heap.size X w' → Calls Tryd.prog 18 #[.pointer (some ⟨b, 0, none⟩)] w' fun e w'' => e = .returned (.agg (D.map B8).toArray) ∧ Below w'.heap.size w' w'') := fun w' h => by
        have := sum_some b (L ++ bk) w' (HT.out.below (hbeX.trans (h.mono hbeX.size)) hpos) (hHX1.out.below h hHX1.out.lt) hl5
        rw [HD.out _ rfl] at this; exact this
      have c18b : Hid (∀ w', Below X.heap.size X w' → Calls Tryd.prog 18 #[.pointer (some ⟨b + 1, 0, none⟩)] w' fun e w'' => e = .returned (.agg (D.map B8).toArray) ∧ Below w'.heap.size w' w'') := fun w' h => by
        have := sum_some (b + 1) (L ++ bk) w' (HT.out.below (hbeX.trans (h.mono hbeX.size)) hpos) (hHX2.out.below h hHX2.out.lt) hl5
        rw [HD.out _ rfl] at this; exact this
      have hnD : ∀ w', (binOp .neq 26 (.agg (D.map B8).toArray) (.agg (D.map B8).toArray)).run Tryd.prog w' = .ok (.bool false) w' := fun w' => by rw [run_neq_D w' D D hDl hDl]; simp
      have hu26 := Tryd.underlying26
      have HN5 : Hid (N5 = (L ++ bk).length) := by rw [List.length_append]; exact hN5.symm
      clear hHC1 hHC2 hOwC hbX0 hl5 hN5 HD hLs HN
      have hr : Hid (∀ w', Below X.heap.size X w' → w'.rangeAt M 0 (D.map B8)) := fun w' h => (hBX.below h hBX.lt).range
      have hbd : Below X.heap.size X X.drew := (Below.refl _ _).drew
      refine wp_region_noPanic ?_
      refine wp_region_any (by kernel_rfl) ?_
      change wpAny _ _ _ _ _ _ _ (World.drew _)
      refine take_opG (i := 0) (.pointer (some ⟨b, 0, none⟩)) (by exact rfl) (by kernel_rfl) (by kernel_rfl) (by kernel_rfl) (fun _ _ _ h => h) (by rfl) (fun w => by go_simp) ?_
      simp only [Act.put, List.setIfInBounds_toArray, List.set_cons_zero, List.set_cons_succ]
      refine wpAny_ready (rs := [1, 2]) (by kernel_rfl) (by simp) ?_
      refine ready_callG 18 _ _ #[.pointer (some ⟨b, 0, none⟩)] (by exact rfl) (by rfl) (by go_simp) (by go_simp) ?_ ?_
      · refine (c18a.out _ hbd).mono ?_
        rintro e y1 ⟨rfl, hy1⟩
        refine ⟨_, rfl, ?_⟩
        simp only [Act.put, List.setIfInBounds_toArray, List.set_cons_zero, List.set_cons_succ]
        have hz1 := hbd.trans (hy1.mono hbd.size)
        refine wpAny_ready (rs := [2]) (by kernel_rfl) (by simp) ?_
        refine ready_loadG 26 M 0 (D.map B8) _ (by exact rfl) (by rfl) (by go_simp) (hr.out _ hz1) Tryd.underlying26 rfl hi26 ?_ AllReady.nil
        simp only [Act.put, List.setIfInBounds_toArray, List.set_cons_zero, List.set_cons_succ]
        refine take_opG (i := 3) (.bool false) (by exact rfl) (by kernel_rfl) (by kernel_rfl) (by kernel_rfl) (fun _ _ _ h => h) (by rfl) (fun w => by go_simp) ?_
        simp only [Act.put, List.setIfInBounds_toArray, List.set_cons_zero, List.set_cons_succ]
        refine take_opG (i := 4) (.bool false) (by exact rfl) (by kernel_rfl) (by kernel_rfl) (by kernel_rfl) (fun _ _ _ h => h) (by rfl) (fun w => by go_simp) ?_
        simp only [Act.put, List.setIfInBounds_toArray, List.set_cons_zero, List.set_cons_succ]
        refine wpAny_ready (rs := [5, 6]) (by kernel_rfl) (by simp) ?_
        refine ready_callG 18 _ _ #[.pointer (some ⟨b + 1, 0, none⟩)] (by exact rfl) (by rfl) (by go_simp) (by go_simp) ?_ ?_
        · refine (c18b.out _ hz1).mono ?_
          rintro e y2 ⟨rfl, hy2⟩
          refine ⟨_, rfl, ?_⟩
          simp only [Act.put, List.setIfInBounds_toArray, List.set_cons_zero, List.set_cons_succ]
          have hz2 := hz1.trans (hy2.mono hz1.size)
          refine wpAny_ready (rs := [6]) (by kernel_rfl) (by simp) ?_
          refine ready_loadG 26 M 0 (D.map B8) _ (by exact rfl) (by rfl) (by go_simp) (hr.out _ hz2) Tryd.underlying26 rfl hi26 ?_ AllReady.nil
          simp only [Act.put, List.setIfInBounds_toArray, List.set_cons_zero, List.set_cons_succ]
          refine take_opG (i := 7) (.bool false) (by exact rfl) (by kernel_rfl) (by kernel_rfl) (by kernel_rfl) (fun _ _ _ h => h) (by rfl) (fun w => by go_simp) ?_
          simp only [Act.put, List.setIfInBounds_toArray, List.set_cons_zero, List.set_cons_succ]
          refine take_opG (i := 8) (.bool false) (by exact rfl) (by kernel_rfl) (by kernel_rfl) (by kernel_rfl) (fun _ _ _ h => h) (by rfl) (fun w => by go_simp) ?_
          simp only [Act.put, List.setIfInBounds_toArray, List.set_cons_zero, List.set_cons_succ]
          refine take_opG (i := 9) (.bool false) (by exact rfl) (by kernel_rfl) (by kernel_rfl) (by kernel_rfl) (fun _ _ _ h => h) (by rfl) (fun w => by go_simp) ?_
          simp only [Act.put, List.setIfInBounds_toArray, List.set_cons_zero, List.set_cons_succ]
          refine take_opG (i := 10) (.pointer (some ⟨b, 0, none⟩)) (by exact rfl) (by kernel_rfl) (by kernel_rfl) (by kernel_rfl) (fun _ _ _ h => h) (by rfl) (fun w => by go_simp) ?_
          simp only [Act.put, List.setIfInBounds_toArray, List.set_cons_zero, List.set_cons_succ]
          refine wpAny_ready (rs := [11, 12]) (by kernel_rfl) (by simp) ?_
          refine ready_callG 18 _ _ #[.pointer (some ⟨b, 0, none⟩)] (by exact rfl) (by rfl) (by go_simp) (by go_simp) ?_ ?_
          · refine (c18a.out _ hz2).mono ?_
            rintro e y3 ⟨rfl, hy3⟩
            refine ⟨_, rfl, ?_⟩
            simp only [Act.put, List.setIfInBounds_toArray, List.set_cons_zero, List.set_cons_succ]
            have hz3 := hz2.trans (hy3.mono hz2.size)
            refine wpAny_ready (rs := [12]) (by kernel_rfl) (by simp) ?_
            refine ready_loadG 26 M 0 (D.map B8) _ (by exact rfl) (by rfl) (by go_simp) (hr.out _ hz3) Tryd.underlying26 rfl hi26 ?_ AllReady.nil
            simp only [Act.put, List.setIfInBounds_toArray, List.set_cons_zero, List.set_cons_succ]
            refine take_opG (i := 13) (.bool false) (by exact rfl) (by kernel_rfl) (by kernel_rfl) (by kernel_rfl) (fun _ _ _ h => h) (by rfl) (fun w => by go_simp) ?_
            simp only [Act.put, List.setIfInBounds_toArray, List.set_cons_zero, List.set_cons_succ]
            refine take_opG (i := 14) (.bool false) (by exact rfl) (by kernel_rfl) (by kernel_rfl) (by kernel_rfl) (fun _ _ _ h => h) (by rfl) (fun w => by go_simp) ?_
            simp only [Act.put, List.setIfInBounds_toArray, List.set_cons_zero, List.set_cons_succ]
            refine wpAny_done (by kernel_rfl) (NoPanic.normal ?_) _
            go_wp2
            go_roundw
            case rel => exact ⟨k + 1, N5, pc, cc, rfl, by go_num, by omega, by rw [HF.out]; exact HN5, by rw [HF.out]; exact hOX.out.below hz3, by rw [HF.out]; exact hHX1.out.below hz3 hHX1.out.lt, by rw [HF.out]; exact hHX2.out.below hz3 hHX2.out.lt, hbeX.trans (hz3.mono hbeX.size)⟩
            case measure => simp [intOf]; omega
          · refine ready_loadG 26 M 0 (D.map B8) _ (by exact rfl) (by rfl) (by go_simp) (hr.out _ hz2) Tryd.underlying26 rfl hi26 ?_ AllReady.nil
            simp only [Act.put, List.setIfInBounds_toArray, List.set_cons_zero, List.set_cons_succ]
            refine wpAny_ready (rs := [11]) (by kernel_rfl) (by simp) ?_
            refine ready_callG 18 _ _ #[.pointer (some ⟨b, 0, none⟩)] (by exact rfl) (by rfl) (by go_simp) (by go_simp) ?_ AllReady.nil
            refine (c18a.out _ hz2).mono ?_
            rintro e y4 ⟨rfl, hy4⟩
            refine ⟨_, rfl, ?_⟩
            simp only [Act.put, List.setIfInBounds_toArray, List.set_cons_zero, List.set_cons_succ]
            have hz4 := hz2.trans (hy4.mono hz2.size)
            refine take_opG (i := 13) (.bool false) (by exact rfl) (by kernel_rfl) (by kernel_rfl) (by kernel_rfl) (fun _ _ _ h => h) (by rfl) (fun w => by go_simp) ?_
            simp only [Act.put, List.setIfInBounds_toArray, List.set_cons_zero, List.set_cons_succ]
            refine take_opG (i := 14) (.bool false) (by exact rfl) (by kernel_rfl) (by kernel_rfl) (by kernel_rfl) (fun _ _ _ h => h) (by rfl) (fun w => by go_simp) ?_
            simp only [Act.put, List.setIfInBounds_toArray, List.set_cons_zero, List.set_cons_succ]
            refine wpAny_done (by kernel_rfl) (NoPanic.normal ?_) _
            go_wp2
            go_roundw
            case rel => exact ⟨k + 1, N5, pc, cc, rfl, by go_num, by omega, by rw [HF.out]; exact HN5, by rw [HF.out]; exact hOX.out.below hz4, by rw [HF.out]; exact hHX1.out.below hz4 hHX1.out.lt, by rw [HF.out]; exact hHX2.out.below hz4 hHX2.out.lt, hbeX.trans (hz4.mono hbeX.size)⟩
            case measure => simp [intOf]; omega
        · refine ready_loadG 26 M 0 (D.map B8) _ (by exact rfl) (by rfl) (by go_simp) (hr.out _ hz1) Tryd.underlying26 rfl hi26 ?_ AllReady.nil
          simp only [Act.put, List.setIfInBounds_toArray, List.set_cons_zero, List.set_cons_succ]
          refine wpAny_ready (rs := [5]) (by kernel_rfl) (by simp) ?_
          refine ready_callG 18 _ _ #[.pointer (some ⟨b + 1, 0, none⟩)] (by exact rfl) (by rfl) (by go_simp) (by go_simp) ?_ AllReady.nil
          refine (c18b.out _ hz1).mono ?_
          rintro e y5 ⟨rfl, hy5⟩
          refine ⟨_, rfl, ?_⟩
          simp only [Act.put, List.setIfInBounds_toArray, List.set_cons_zero, List.set_cons_succ]
          have hz5 := hz1.trans (hy5.mono hz1.size)
          refine take_opG (i := 7) (.bool false) (by exact rfl) (by kernel_rfl) (by kernel_rfl) (by kernel_rfl) (fun _ _ _ h => h) (by rfl) (fun w => by go_simp) ?_
          simp only [Act.put, List.setIfInBounds_toArray, List.set_cons_zero, List.set_cons_succ]
          refine take_opG (i := 8) (.bool false) (by exact rfl) (by kernel_rfl) (by kernel_rfl) (by kernel_rfl) (fun _ _ _ h => h) (by rfl) (fun w => by go_simp) ?_
          simp only [Act.put, List.setIfInBounds_toArray, List.set_cons_zero, List.set_cons_succ]
          refine take_opG (i := 9) (.bool false) (by exact rfl) (by kernel_rfl) (by kernel_rfl) (by kernel_rfl) (fun _ _ _ h => h) (by rfl) (fun w => by go_simp) ?_
          simp only [Act.put, List.setIfInBounds_toArray, List.set_cons_zero, List.set_cons_succ]
          refine take_opG (i := 10) (.pointer (some ⟨b, 0, none⟩)) (by exact rfl) (by kernel_rfl) (by kernel_rfl) (by kernel_rfl) (fun _ _ _ h => h) (by rfl) (fun w => by go_simp) ?_
          simp only [Act.put, List.setIfInBounds_toArray, List.set_cons_zero, List.set_cons_succ]
          refine wpAny_ready (rs := [11, 12]) (by kernel_rfl) (by simp) ?_
          refine ready_callG 18 _ _ #[.pointer (some ⟨b, 0, none⟩)] (by exact rfl) (by rfl) (by go_simp) (by go_simp) ?_ ?_
          · refine (c18a.out _ hz5).mono ?_
            rintro e y6 ⟨rfl, hy6⟩
            refine ⟨_, rfl, ?_⟩
            simp only [Act.put, List.setIfInBounds_toArray, List.set_cons_zero, List.set_cons_succ]
            have hz6 := hz5.trans (hy6.mono hz5.size)
            refine wpAny_ready (rs := [12]) (by kernel_rfl) (by simp) ?_
            refine ready_loadG 26 M 0 (D.map B8) _ (by exact rfl) (by rfl) (by go_simp) (hr.out _ hz6) Tryd.underlying26 rfl hi26 ?_ AllReady.nil
            simp only [Act.put, List.setIfInBounds_toArray, List.set_cons_zero, List.set_cons_succ]
            refine take_opG (i := 13) (.bool false) (by exact rfl) (by kernel_rfl) (by kernel_rfl) (by kernel_rfl) (fun _ _ _ h => h) (by rfl) (fun w => by go_simp) ?_
            simp only [Act.put, List.setIfInBounds_toArray, List.set_cons_zero, List.set_cons_succ]
            refine take_opG (i := 14) (.bool false) (by exact rfl) (by kernel_rfl) (by kernel_rfl) (by kernel_rfl) (fun _ _ _ h => h) (by rfl) (fun w => by go_simp) ?_
            simp only [Act.put, List.setIfInBounds_toArray, List.set_cons_zero, List.set_cons_succ]
            refine wpAny_done (by kernel_rfl) (NoPanic.normal ?_) _
            go_wp2
            go_roundw
            case rel => exact ⟨k + 1, N5, pc, cc, rfl, by go_num, by omega, by rw [HF.out]; exact HN5, by rw [HF.out]; exact hOX.out.below hz6, by rw [HF.out]; exact hHX1.out.below hz6 hHX1.out.lt, by rw [HF.out]; exact hHX2.out.below hz6 hHX2.out.lt, hbeX.trans (hz6.mono hbeX.size)⟩
            case measure => simp [intOf]; omega
          · refine ready_loadG 26 M 0 (D.map B8) _ (by exact rfl) (by rfl) (by go_simp) (hr.out _ hz5) Tryd.underlying26 rfl hi26 ?_ AllReady.nil
            simp only [Act.put, List.setIfInBounds_toArray, List.set_cons_zero, List.set_cons_succ]
            refine wpAny_ready (rs := [11]) (by kernel_rfl) (by simp) ?_
            refine ready_callG 18 _ _ #[.pointer (some ⟨b, 0, none⟩)] (by exact rfl) (by rfl) (by go_simp) (by go_simp) ?_ AllReady.nil
            refine (c18a.out _ hz5).mono ?_
            rintro e y7 ⟨rfl, hy7⟩
            refine ⟨_, rfl, ?_⟩
            simp only [Act.put, List.setIfInBounds_toArray, List.set_cons_zero, List.set_cons_succ]
            have hz7 := hz5.trans (hy7.mono hz5.size)
            refine take_opG (i := 13) (.bool false) (by exact rfl) (by kernel_rfl) (by kernel_rfl) (by kernel_rfl) (fun _ _ _ h => h) (by rfl) (fun w => by go_simp) ?_
            simp only [Act.put, List.setIfInBounds_toArray, List.set_cons_zero, List.set_cons_succ]
            refine take_opG (i := 14) (.bool false) (by exact rfl) (by kernel_rfl) (by kernel_rfl) (by kernel_rfl) (fun _ _ _ h => h) (by rfl) (fun w => by go_simp) ?_
            simp only [Act.put, List.setIfInBounds_toArray, List.set_cons_zero, List.set_cons_succ]
            refine wpAny_done (by kernel_rfl) (NoPanic.normal ?_) _
            go_wp2
            go_roundw
            case rel => exact ⟨k + 1, N5, pc, cc, rfl, by go_num, by omega, by rw [HF.out]; exact HN5, by rw [HF.out]; exact hOX.out.below hz7, by rw [HF.out]; exact hHX1.out.below hz7 hHX1.out.lt, by rw [HF.out]; exact hHX2.out.below hz7 hHX2.out.lt, hbeX.trans (hz7.mono hbeX.size)⟩
            case measure => simp [intOf]; omega
      · refine ready_loadG 26 M 0 (D.map B8) _ (by exact rfl) (by rfl) (by go_simp) (hr.out _ hbd) Tryd.underlying26 rfl hi26 ?_ AllReady.nil
        simp only [Act.put, List.setIfInBounds_toArray, List.set_cons_zero, List.set_cons_succ]
        refine wpAny_ready (rs := [1]) (by kernel_rfl) (by simp) ?_
        refine ready_callG 18 _ _ #[.pointer (some ⟨b, 0, none⟩)] (by exact rfl) (by rfl) (by go_simp) (by go_simp) ?_ AllReady.nil
        refine (c18a.out _ hbd).mono ?_
        rintro e y8 ⟨rfl, hy8⟩
        refine ⟨_, rfl, ?_⟩
        simp only [Act.put, List.setIfInBounds_toArray, List.set_cons_zero, List.set_cons_succ]
        have hz8 := hbd.trans (hy8.mono hbd.size)
        refine take_opG (i := 3) (.bool false) (by exact rfl) (by kernel_rfl) (by kernel_rfl) (by kernel_rfl) (fun _ _ _ h => h) (by rfl) (fun w => by go_simp) ?_
        simp only [Act.put, List.setIfInBounds_toArray, List.set_cons_zero, List.set_cons_succ]
        refine take_opG (i := 4) (.bool false) (by exact rfl) (by kernel_rfl) (by kernel_rfl) (by kernel_rfl) (fun _ _ _ h => h) (by rfl) (fun w => by go_simp) ?_
        simp only [Act.put, List.setIfInBounds_toArray, List.set_cons_zero, List.set_cons_succ]
        refine wpAny_ready (rs := [5, 6]) (by kernel_rfl) (by simp) ?_
        refine ready_callG 18 _ _ #[.pointer (some ⟨b + 1, 0, none⟩)] (by exact rfl) (by rfl) (by go_simp) (by go_simp) ?_ ?_
        · refine (c18b.out _ hz8).mono ?_
          rintro e y9 ⟨rfl, hy9⟩
          refine ⟨_, rfl, ?_⟩
          simp only [Act.put, List.setIfInBounds_toArray, List.set_cons_zero, List.set_cons_succ]
          have hz9 := hz8.trans (hy9.mono hz8.size)
          refine wpAny_ready (rs := [6]) (by kernel_rfl) (by simp) ?_
          refine ready_loadG 26 M 0 (D.map B8) _ (by exact rfl) (by rfl) (by go_simp) (hr.out _ hz9) Tryd.underlying26 rfl hi26 ?_ AllReady.nil
          simp only [Act.put, List.setIfInBounds_toArray, List.set_cons_zero, List.set_cons_succ]
          refine take_opG (i := 7) (.bool false) (by exact rfl) (by kernel_rfl) (by kernel_rfl) (by kernel_rfl) (fun _ _ _ h => h) (by rfl) (fun w => by go_simp) ?_
          simp only [Act.put, List.setIfInBounds_toArray, List.set_cons_zero, List.set_cons_succ]
          refine take_opG (i := 8) (.bool false) (by exact rfl) (by kernel_rfl) (by kernel_rfl) (by kernel_rfl) (fun _ _ _ h => h) (by rfl) (fun w => by go_simp) ?_
          simp only [Act.put, List.setIfInBounds_toArray, List.set_cons_zero, List.set_cons_succ]
          refine take_opG (i := 9) (.bool false) (by exact rfl) (by kernel_rfl) (by kernel_rfl) (by kernel_rfl) (fun _ _ _ h => h) (by rfl) (fun w => by go_simp) ?_
          simp only [Act.put, List.setIfInBounds_toArray, List.set_cons_zero, List.set_cons_succ]
          refine take_opG (i := 10) (.pointer (some ⟨b, 0, none⟩)) (by exact rfl) (by kernel_rfl) (by kernel_rfl) (by kernel_rfl) (fun _ _ _ h => h) (by rfl) (fun w => by go_simp) ?_
          simp only [Act.put, List.setIfInBounds_toArray, List.set_cons_zero, List.set_cons_succ]
          refine wpAny_ready (rs := [11, 12]) (by kernel_rfl) (by simp) ?_
          refine ready_callG 18 _ _ #[.pointer (some ⟨b, 0, none⟩)] (by exact rfl) (by rfl) (by go_simp) (by go_simp) ?_ ?_
          · refine (c18a.out _ hz9).mono ?_
            rintro e y10 ⟨rfl, hy10⟩
            refine ⟨_, rfl, ?_⟩
            simp only [Act.put, List.setIfInBounds_toArray, List.set_cons_zero, List.set_cons_succ]
            have hz10 := hz9.trans (hy10.mono hz9.size)
            refine wpAny_ready (rs := [12]) (by kernel_rfl) (by simp) ?_
            refine ready_loadG 26 M 0 (D.map B8) _ (by exact rfl) (by rfl) (by go_simp) (hr.out _ hz10) Tryd.underlying26 rfl hi26 ?_ AllReady.nil
            simp only [Act.put, List.setIfInBounds_toArray, List.set_cons_zero, List.set_cons_succ]
            refine take_opG (i := 13) (.bool false) (by exact rfl) (by kernel_rfl) (by kernel_rfl) (by kernel_rfl) (fun _ _ _ h => h) (by rfl) (fun w => by go_simp) ?_
            simp only [Act.put, List.setIfInBounds_toArray, List.set_cons_zero, List.set_cons_succ]
            refine take_opG (i := 14) (.bool false) (by exact rfl) (by kernel_rfl) (by kernel_rfl) (by kernel_rfl) (fun _ _ _ h => h) (by rfl) (fun w => by go_simp) ?_
            simp only [Act.put, List.setIfInBounds_toArray, List.set_cons_zero, List.set_cons_succ]
            refine wpAny_done (by kernel_rfl) (NoPanic.normal ?_) _
            go_wp2
            go_roundw
            case rel => exact ⟨k + 1, N5, pc, cc, rfl, by go_num, by omega, by rw [HF.out]; exact HN5, by rw [HF.out]; exact hOX.out.below hz10, by rw [HF.out]; exact hHX1.out.below hz10 hHX1.out.lt, by rw [HF.out]; exact hHX2.out.below hz10 hHX2.out.lt, hbeX.trans (hz10.mono hbeX.size)⟩
            case measure => simp [intOf]; omega
          · refine ready_loadG 26 M 0 (D.map B8) _ (by exact rfl) (by rfl) (by go_simp) (hr.out _ hz9) Tryd.underlying26 rfl hi26 ?_ AllReady.nil
            simp only [Act.put, List.setIfInBounds_toArray, List.set_cons_zero, List.set_cons_succ]
            refine wpAny_ready (rs := [11]) (by kernel_rfl) (by simp) ?_
            refine ready_callG 18 _ _ #[.pointer (some ⟨b, 0, none⟩)] (by exact rfl) (by rfl) (by go_simp) (by go_simp) ?_ AllReady.nil
            refine (c18a.out _ hz9).mono ?_
            rintro e y11 ⟨rfl, hy11⟩
            refine ⟨_, rfl, ?_⟩
            simp only [Act.put, List.setIfInBounds_toArray, List.set_cons_zero, List.set_cons_succ]
            have hz11 := hz9.trans (hy11.mono hz9.size)
            refine take_opG (i := 13) (.bool false) (by exact rfl) (by kernel_rfl) (by kernel_rfl) (by kernel_rfl) (fun _ _ _ h => h) (by rfl) (fun w => by go_simp) ?_
            simp only [Act.put, List.setIfInBounds_toArray, List.set_cons_zero, List.set_cons_succ]
            refine take_opG (i := 14) (.bool false) (by exact rfl) (by kernel_rfl) (by kernel_rfl) (by kernel_rfl) (fun _ _ _ h => h) (by rfl) (fun w => by go_simp) ?_
            simp only [Act.put, List.setIfInBounds_toArray, List.set_cons_zero, List.set_cons_succ]
            refine wpAny_done (by kernel_rfl) (NoPanic.normal ?_) _
            go_wp2
            go_roundw
            case rel => exact ⟨k + 1, N5, pc, cc, rfl, by go_num, by omega, by rw [HF.out]; exact HN5, by rw [HF.out]; exact hOX.out.below hz11, by rw [HF.out]; exact hHX1.out.below hz11 hHX1.out.lt, by rw [HF.out]; exact hHX2.out.below hz11 hHX2.out.lt, hbeX.trans (hz11.mono hbeX.size)⟩
            case measure => simp [intOf]; omega
        · refine ready_loadG 26 M 0 (D.map B8) _ (by exact rfl) (by rfl) (by go_simp) (hr.out _ hz8) Tryd.underlying26 rfl hi26 ?_ AllReady.nil
          simp only [Act.put, List.setIfInBounds_toArray, List.set_cons_zero, List.set_cons_succ]
          refine wpAny_ready (rs := [5]) (by kernel_rfl) (by simp) ?_
          refine ready_callG 18 _ _ #[.pointer (some ⟨b + 1, 0, none⟩)] (by exact rfl) (by rfl) (by go_simp) (by go_simp) ?_ AllReady.nil
          refine (c18b.out _ hz8).mono ?_
          rintro e y12 ⟨rfl, hy12⟩
          refine ⟨_, rfl, ?_⟩
          simp only [Act.put, List.setIfInBounds_toArray, List.set_cons_zero, List.set_cons_succ]
          have hz12 := hz8.trans (hy12.mono hz8.size)
          refine take_opG (i := 7) (.bool false) (by exact rfl) (by kernel_rfl) (by kernel_rfl) (by kernel_rfl) (fun _ _ _ h => h) (by rfl) (fun w => by go_simp) ?_
          simp only [Act.put, List.setIfInBounds_toArray, List.set_cons_zero, List.set_cons_succ]
          refine take_opG (i := 8) (.bool false) (by exact rfl) (by kernel_rfl) (by kernel_rfl) (by kernel_rfl) (fun _ _ _ h => h) (by rfl) (fun w => by go_simp) ?_
          simp only [Act.put, List.setIfInBounds_toArray, List.set_cons_zero, List.set_cons_succ]
          refine take_opG (i := 9) (.bool false) (by exact rfl) (by kernel_rfl) (by kernel_rfl) (by kernel_rfl) (fun _ _ _ h => h) (by rfl) (fun w => by go_simp) ?_
          simp only [Act.put, List.setIfInBounds_toArray, List.set_cons_zero, List.set_cons_succ]
          refine take_opG (i := 10) (.pointer (some ⟨b, 0, none⟩)) (by exact rfl) (by kernel_rfl) (by kernel_rfl) (by kernel_rfl) (fun _ _ _ h => h) (by rfl) (fun w => by go_simp) ?_
          simp only [Act.put, List.setIfInBounds_toArray, List.set_cons_zero, List.set_cons_succ]
          refine wpAny_ready (rs := [11, 12]) (by kernel_rfl) (by simp) ?_
          refine ready_callG 18 _ _ #[.pointer (some ⟨b, 0, none⟩)] (by exact rfl) (by rfl) (by go_simp) (by go_simp) ?_ ?_
          · refine (c18a.out _ hz12).mono ?_
            rintro e y13 ⟨rfl, hy13⟩
            refine ⟨_, rfl, ?_⟩
            simp only [Act.put, List.setIfInBounds_toArray, List.set_cons_zero, List.set_cons_succ]
            have hz13 := hz12.trans (hy13.mono hz12.size)
            refine wpAny_ready (rs := [12]) (by kernel_rfl) (by simp) ?_
            refine ready_loadG 26 M 0 (D.map B8) _ (by exact rfl) (by rfl) (by go_simp) (hr.out _ hz13) Tryd.underlying26 rfl hi26 ?_ AllReady.nil
            simp only [Act.put, List.setIfInBounds_toArray, List.set_cons_zero, List.set_cons_succ]
            refine take_opG (i := 13) (.bool false) (by exact rfl) (by kernel_rfl) (by kernel_rfl) (by kernel_rfl) (fun _ _ _ h => h) (by rfl) (fun w => by go_simp) ?_
            simp only [Act.put, List.setIfInBounds_toArray, List.set_cons_zero, List.set_cons_succ]
            refine take_opG (i := 14) (.bool false) (by exact rfl) (by kernel_rfl) (by kernel_rfl) (by kernel_rfl) (fun _ _ _ h => h) (by rfl) (fun w => by go_simp) ?_
            simp only [Act.put, List.setIfInBounds_toArray, List.set_cons_zero, List.set_cons_succ]
            refine wpAny_done (by kernel_rfl) (NoPanic.normal ?_) _
            go_wp2
            go_roundw
            case rel => exact ⟨k + 1, N5, pc, cc, rfl, by go_num, by omega, by rw [HF.out]; exact HN5, by rw [HF.out]; exact hOX.out.below hz13, by rw [HF.out]; exact hHX1.out.below hz13 hHX1.out.lt, by rw [HF.out]; exact hHX2.out.below hz13 hHX2.out.lt, hbeX.trans (hz13.mono hbeX.size)⟩
            case measure => simp [intOf]; omega
          · refine ready_loadG 26 M 0 (D.map B8) _ (by exact rfl) (by rfl) (by go_simp) (hr.out _ hz12) Tryd.underlying26 rfl hi26 ?_ AllReady.nil
            simp only [Act.put, List.setIfInBounds_toArray, List.set_cons_zero, List.set_cons_succ]
            refine wpAny_ready (rs := [11]) (by kernel_rfl) (by simp) ?_
            refine ready_callG 18 _ _ #[.pointer (some ⟨b, 0, none⟩)] (by exact rfl) (by rfl) (by go_simp) (by go_simp) ?_ AllReady.nil
            refine (c18a.out _ hz12).mono ?_
            rintro e y14 ⟨rfl, hy14⟩
            refine ⟨_, rfl, ?_⟩
            simp only [Act.put, List.setIfInBounds_toArray, List.set_cons_zero, List.set_cons_succ]
            have hz14 := hz12.trans (hy14.mono hz12.size)
            refine take_opG (i := 13) (.bool false) (by exact rfl) (by kernel_rfl) (by kernel_rfl) (by kernel_rfl) (fun _ _ _ h => h) (by rfl) (fun w => by go_simp) ?_
            simp only [Act.put, List.setIfInBounds_toArray, List.set_cons_zero, List.set_cons_succ]
            refine take_opG (i := 14) (.bool false) (by exact rfl) (by kernel_rfl) (by kernel_rfl) (by kernel_rfl) (fun _ _ _ h => h) (by rfl) (fun w => by go_simp) ?_
            simp only [Act.put, List.setIfInBounds_toArray, List.set_cons_zero, List.set_cons_succ]
            refine wpAny_done (by kernel_rfl) (NoPanic.normal ?_) _
            go_wp2
            go_roundw
            case rel => exact ⟨k + 1, N5, pc, cc, rfl, by go_num, by omega, by rw [HF.out]; exact HN5, by rw [HF.out]; exact hOX.out.below hz14, by rw [HF.out]; exact hHX1.out.below hz14 hHX1.out.lt, by rw [HF.out]; exact hHX2.out.below hz14 hHX2.out.lt, hbeX.trans (hz14.mono hbeX.size)⟩
            case measure => simp [intOf]; omega
    · have hkk : ¬ (k : Int) < (parts.length : Int) := by omega
      clear HN HO HH1 HH2
      go_wp2
      go_ret
      exact ⟨rfl, hbe⟩
end Go.Proofs.YtpgckbjcacagdaaDoor
