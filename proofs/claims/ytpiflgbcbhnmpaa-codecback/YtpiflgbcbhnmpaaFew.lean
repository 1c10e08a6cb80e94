/- Blocks of a size that is looked at. -/
import Derived.Test.YtpiflgbcbhnmpaaOpen
namespace Go.Proofs.Ytpiflgbcbhnmpaa
open Go.RowKit
/-- A block of few parts. -/
def Small (k : Bk) : Prop := k.ds.length ≤ 2000 ∧ ∀ d ∈ k.ds, d.cs.length ≤ 2000
def FewOk (ks : List Bk) (N : Nat) (w : World) (e : Ending) (w' : World) : Prop := ∃ b, e = .returned (.bool b) ∧ w' = w ∧ (b = true → N ≤ 2000 ∧ ∀ k ∈ ks, Small k)
set_option maxRecDepth 100000 in
set_option maxHeartbeats 4000000 in
theorem few19 (ks : List Bk) (hraw : ∀ k ∈ ks, BkRaw k) (p : Option Addr) (N cap : Nat) (w : World) (hN : N = ks.length) (h : BksLo w w.heap.size (.slice p N cap) ks) (hNb : N ≤ 1000000000000000) :
    Calls Try.prog 19 #[.slice p N cap] w fun e w' => FewOk ks N w e w' := by
  obtain ⟨p', c', ess, he, hel, hmem, hrow⟩ := h
  simp at he
  obtain ⟨rfl, hNc, rfl⟩ := he
  clear hNc
  have HM := hid hmem
  have HR := hid hrow
  have HN := hid hN
  have HW := hid hraw
  have HEL := hid hel
  clear hmem hrow hN hel hraw
  go_enter Try.func19, Try.ntmps19
  go_wp2
  go_loopw [3, 4] (fun nv iv wr => ∃ a i : Nat, nv = .int .i64 (a : Int) ∧ iv = .int .i64 (i : Int) ∧ i ≤ N ∧ a ≤ 1000000000010000 ∧ wr = w ∧ Hid (a ≤ 2000 → 5 * i ≤ a ∧ ∀ j k, j < i → ks[j]? = some k → Small k)) (fun _ iv _ => N - natOf iv)
  case atStart => exact ⟨0, 0, rfl, rfl, by omega, by omega, rfl, fun _ => ⟨by omega, fun j k hj => by omega⟩⟩
  case round =>
    obtain ⟨a, i, rfl, rfl, hi, ha, rfl, HS⟩ := hrel
    by_cases hlt : i < N
    · have e2 : (i : Int) < (N : Int) := by omega
      have e3 : (0 : Int) ≤ (i : Int) := by omega
      by_cases h2000 : a ≤ 2000
      · have e4 : (a : Int) ≤ 2000 := by omega
        have hlb : i < ks.length := by have := HN.out; omega
        have hne : ks ≠ [] := by rintro rfl; simp at hlb
        obtain ⟨b, o, rfl, hblt, hc⟩ := HR.out hne
        obtain ⟨d, hdi⟩ : ∃ d, ks[i]? = some d := ⟨_, List.getElem?_eq_getElem hlb⟩
        obtain ⟨E, hEi⟩ : ∃ E, ess[i]? = some E := ⟨_, List.getElem?_eq_getElem (by have := HEL.out; omega)⟩
        obtain ⟨hEl, q, c, hEd, hCm⟩ := HM.out i d E hdi hEi
        have hW := HW.out d (List.mem_of_getElem? hdi)
        have cA : wr.cell? ⟨b, o + i * 98 + 97, none⟩ = some (.slice q d.ds.length c) := hc i E hEi 97 _ (by rw [hEd]; exact bkL_get97 _ _ _ _ _ (by simp [hW.p.1]) (by simp [hW.r.1]) (by simp [hW.s.1]))
        have HD := hid hdi
        have HWd := hid hW
        have HCm := hid hCm
        have hdl := hW.l
        clear hc hEi hEl hEd hCm hdi hW HM HR
        go_wp2
        go_loopw [3, 5] (fun nv kv wr' => ∃ a' k : Nat, nv = .int .i64 (a' : Int) ∧ kv = .int .i64 (k : Int) ∧ k ≤ d.ds.length ∧ a' ≤ 1000000000010000 ∧ wr' = wr ∧ Hid (a' ≤ 2000 → 5 * i + 5 ≤ a' ∧ 5 * k ≤ a' ∧ ∀ j x, j < k → d.ds[j]? = some x → x.cs.length ≤ 2000)) (fun _ kv _ => d.ds.length - natOf kv)
        case atStart => exact ⟨a + 5, 0, by simp, rfl, by omega, by omega, rfl, fun _ => ⟨by have := (HS.out h2000).1; omega, by omega, fun j x hj => by omega⟩⟩
        case round =>
          obtain ⟨a', k, rfl, rfl, hk, ha', rfl, HT⟩ := hrel
          by_cases hkl : k < d.ds.length
          · have f2 : (k : Int) < (d.ds.length : Int) := by omega
            have f3 : (0 : Int) ≤ (k : Int) := by omega
            by_cases h2 : a' ≤ 2000
            · have f4 : (a' : Int) ≤ 2000 := by omega
              obtain ⟨q', c', ess', he', hel', hmem', hrow'⟩ := HCm.out
              simp at he'
              obtain ⟨rfl, rfl⟩ := he'
              have hne' : d.ds ≠ [] := by intro h0; rw [h0] at hkl; simp at hkl
              obtain ⟨b2, o2, rfl, _, hc2⟩ := hrow' hne'
              obtain ⟨x, hxi⟩ : ∃ x, d.ds[k]? = some x := ⟨_, List.getElem?_eq_getElem hkl⟩
              obtain ⟨E2, hE2⟩ : ∃ E, ess'[k]? = some E := ⟨_, List.getElem?_eq_getElem (by omega)⟩
              obtain ⟨_, q2, c2, hEd2, _⟩ := hmem' k x E2 hxi hE2
              have cB : wr.cell? ⟨b2, o2 + k * 37 + 4, none⟩ = some (.slice q2 x.cs.length c2) := hc2 k E2 hE2 4 _ (by rw [hEd2]; rfl)
              have hxl := (HWd.out.d x (List.mem_of_getElem? hxi)).c
              have HXI := hid hxi
              clear hc2 hmem' hrow' hel' hE2 hEd2 hxi HCm HWd
              generalize hL : d.ds.length = L at *
              generalize hC : x.cs.length = C at *
              have HC := hid hC
              have HLL := hid hL
              clear hC hL
              have b1 : IntKind.i64.wrap (5 + (C : Int)) = 5 + (C : Int) := by rw [IntKind.wrap_i64]; omega
              have b2 : IntKind.i64.wrap ((a' : Int) + (5 + (C : Int))) = (a' : Int) + (5 + (C : Int)) := by rw [IntKind.wrap_i64]; omega
              go_wp2
              refine ⟨⟨a' + (5 + C), k + 1, by simp, by simp, by omega, by omega, trivial, fun h => ?_⟩, by simp only [natOf]; omega⟩
              obtain ⟨g1, g2, g3⟩ := HT.out h2
              refine ⟨by omega, by omega, fun j y hj hy => ?_⟩
              by_cases hjk : j = k
              · subst hjk
                have hyx : y = x := by have := HXI.out; rw [hy] at this; exact Option.some.inj this
                subst hyx
                have := HC.out; omega
              · exact g3 j y (by omega) hy
            · have f4 : ¬ (a' : Int) ≤ 2000 := by omega
              go_wp2
              exact ⟨⟨a', i + 1, rfl, by simp, by omega, by omega, trivial, fun h => absurd h h2⟩, by simp only [natOf]; omega⟩
          · have f2 : ¬ (k : Int) < (d.ds.length : Int) := by omega
            go_wp2
            refine ⟨⟨a', i + 1, rfl, by simp, by omega, by omega, trivial, fun h => ?_⟩, by simp only [natOf]; omega⟩
            obtain ⟨g1, g2, g3⟩ := HT.out h
            refine ⟨by omega, fun j x hj hx => ?_⟩
            by_cases hji : j = i
            · subst hji
              have hxd : x = d := by have := HD.out; rw [hx] at this; exact Option.some.inj this
              subst hxd
              refine ⟨by omega, fun y hy => ?_⟩
              obtain ⟨l, hl⟩ := List.getElem?_of_mem hy
              exact g3 l y (by have := (List.getElem?_eq_some_iff.1 hl).1; omega) hl
            · exact (HS.out h2000).2 j x (by omega) hx
      · have e4 : ¬ (a : Int) ≤ 2000 := by omega
        go_wp2
        go_ret
        exact ⟨false, rfl, rfl, fun h => by cases h⟩
    · have e2 : ¬ (i : Int) < (N : Int) := by omega
      go_wp2
      go_ret
      refine ⟨decide ((a : Int) ≤ 2000), rfl, rfl, fun h => ?_⟩
      have h9 : a ≤ 2000 := by have := of_decide_eq_true h; omega
      obtain ⟨g1, g2⟩ := HS.out h9
      have hNk := HN.out
      refine ⟨by omega, fun k hk => ?_⟩
      obtain ⟨j, hj⟩ := List.getElem?_of_mem hk
      exact g2 j k (by have := (List.getElem?_eq_some_iff.1 hj).1; omega) hj
end Go.Proofs.Ytpiflgbcbhnmpaa
